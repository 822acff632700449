/- The document's wide numbers: back to 64 bits, where they fit. -/
import Derived.Test.YtkanjgphmafjbaaWideG
namespace Go.Proofs.Ytkanjgphmafjbaa.Wd
open Go.RowKit
set_option linter.unusedVariables false

theorem back_step {f : Nat → Nat} {nv m x : Nat} (h : nv * 65536 ^ (m + 1) + V f (m + 1) = x) : (nv * 65536 + f m) * 65536 ^ m + V f m = x := by
  rw [← h, Nat.add_mul]
  simp only [V]
  rw [Nat.pow_succ, Nat.mul_comm (65536 ^ m) 65536, ← Nat.mul_assoc, Nat.mul_comm (f m)]
  omega
theorem back_bound {f : Nat → Nat} {nv m x : Nat} (h : nv * 65536 ^ (m + 1) + V f (m + 1) = x) : nv * 65536 ≤ x := by
  have h1 : nv * 65536 ≤ nv * 65536 ^ (m + 1) := Nat.mul_le_mul_left _ (by rw [Nat.pow_succ]; exact Nat.le_mul_of_pos_left _ (Nat.pow_pos (by omega)))
  omega

theorem or_join (nv d : Nat) (h : nv * 65536 ≤ 9223372036854775808) (hd : d < 65536) : bits .or .u64 ((nv : Int) * 65536) (d : Int) = ((nv * 65536 + d : Nat) : Int) := by
  have e := u64_or_nat (nv * 65536) d (by omega) (by omega)
  rw [Int.natCast_mul] at e
  have e2 := nat_join 16 (nv * 65536) d (by omega) hd
  rw [e2] at e
  exact e
theorem ret_fit {a b : Int} (h : a = b) : Ending.returned (.tuple #[.int .i64 a, .bool true]) = .returned (.tuple #[.int .i64 b, .bool true]) := by rw [h]

set_option maxHeartbeats 2000000 in
theorem fits_in (x : Int) (na : Bool) (ao : Option Addr) (la ca : Nat) (w : World) (Hna : Hid (na = decide (x < 0))) (hX : Mg w ao la ca x.natAbs) (hl : -9223372036854775808 ≤ x) (hu : x ≤ 9223372036854775807) :
    Calls Try.prog 33 #[.agg #[.bool na, .slice ao la ca]] w fun e w' => e = .returned (.tuple #[.int .i64 x, .bool true]) ∧ Below w.heap.size w w' := by
  have hW0 := (Below.refl w.heap.size w).alloc (Nat.le_refl _) (.cells #[.bool na, .slice ao la ca] 59)
  have hWW := Below.refl (w.heap.size + 1) (w.alloc (.cells #[.bool na, .slice ao la ca] 59))
  have hWs : (w.alloc (.cells #[.bool na, .slice ao la ca] 59)).heap.size = w.heap.size + 1 := by simp
  have hlow : ¬ x < -9223372036854775808 := by omega
  have hbig : Hid (x.natAbs < 65536 ^ 60) := Nat.lt_of_le_of_lt (show x.natAbs ≤ 9223372036854775808 by omega) (by decide)
  obtain ⟨A, hA, nA, vA, lA⟩ := hX
  have hX : Mg w ao la ca x.natAbs := ⟨A, hA, nA, vA, lA⟩
  have hcA := hA.lecap
  have hmA := hA.lemax
  have VA : Hid (val A = x.natAbs) := vA
  clear vA
  go_enter Try.func33, Try.ntmps33
  go_wp2
  go_region_held3 (fun w' => w'.cell? ⟨w.heap.size, 0, none⟩ = some (.bool na) ∧ w'.cell? ⟨w.heap.size, 1, none⟩ = some (.slice ao la ca)) (first | exact box1 hWW.drew | exact box1 hN1 | exact box1 hN2 | exact box1 hN3 | exact box1 hN4)
    (first
      | (go_at_call 45; have _t := hN3; refine (less_v 9223372036854775807 x false b3 na ro3 ao lr3 cr3 la ca _ Hb3 Hna hR3 (hX.below (Nat.le_refl _) hw3) (big_sub x _ hbig.out (by decide)).2 (decide_eq_false (by omega))).mono ?_; rintro e w4 ⟨rfl, hB4⟩; have hN4 := hN3.trans (hB4.mono (by have := hN3.size; omega)); have hw4 := hw3.trans (hB4.mono hw3.size))
      | (go_at_call 46; have _t := hN2; refine (of_b _ _ (by omega) (by omega)).mono ?_; rintro e w3 ⟨b3, ro3, lr3, cr3, rfl, Hb3, hR3, hB3⟩; have hN3 := hN2.trans (hB3.mono (by have := hN2.size; omega)); have hw3 := hw2.trans (hB3.mono hw2.size))
      | (go_at_call 45; refine (less_v x (-9223372036854775808) false na b1 ao ro la ca lr cr _ Hna Hb1 (hX.below (Nat.le_refl _) hw1) hR (big_sub x _ hbig.out (by decide)).1 (decide_eq_false (by omega))).mono ?_; rintro e w2 ⟨rfl, hB2⟩; have hN2 := hN1.trans (hB2.mono (by have := hN1.size; omega)); have hw2 := hw1.trans (hB2.mono hw1.size))
      | (go_at_call 46; refine (of_b _ _ (by omega) (by omega)).mono ?_; rintro e w1 ⟨b1, ro, lr, cr, rfl, Hb1, hR, hB1⟩; have hN1 := hWW.drew.trans (hB1.mono (Nat.le_of_eq hWs.symm)); have hw1 := hW0.drew.trans (hB1.mono (Nat.le_of_lt (by rw [World.size_drew, hWs]; omega)))))
  obtain ⟨q0, q1⟩ := box1 hN4
  have hA4 := hA.below (Nat.le_refl _) hw4
  have HA4 : Hid (Dg w4 ao la ca A) := hA4
  clear hA4 hX hR hR3 hB1 hB2 hB3 hB4 hN1 hN2 hN3 hN4 hw1 hw2 hw3 hWW hW0
  go_wp2
  go_loop [4, 5] (fun n i => ∃ m nv : Nat, m ≤ la ∧ i = .int .i64 ((m : Int) - 1) ∧ n = .int .u64 nv ∧ Hid (nv * 65536 ^ m + V (dg A) m = x.natAbs)) (fun _ i => (intOf i + 1).toNat)
  case atStart => exact ⟨la, 0, Nat.le_refl _, by go_num, rfl, by
    show 0 * 65536 ^ la + V (dg A) la = x.natAbs
    rw [val_at (by rw [hA.eqlen]; exact Nat.le_refl _), VA.out]; omega⟩
  case round =>
    obtain ⟨m, nv, hm, rfl, rfl, hinv⟩ := hrel
    rcases m with _ | j
    · have hv : Hid (nv = x.natAbs) := by
        have := hinv.out
        simp [V] at this
        exact this
      clear hinv
      rcases Bool.eq_false_or_eq_true na with hn | hn
      · subst hn
        have hs0 : x < 0 := of_decide_eq_true Hna.out.symm
        have hs : Hid (x < 0) := hs0
        clear hs0
        go_wp2
        go_ret2
        have h1 := hv.out
        have h2 := hs.out
        exact ⟨ret_fit (by rw [IntKind.wrap_u64]; unfold wrap64; omega), hw4⟩
      · subst hn
        have hs0 : ¬ x < 0 := of_decide_eq_false Hna.out.symm
        have hs : Hid (¬ x < 0) := hs0
        clear hs0
        go_wp2
        go_ret2
        have h1 := hv.out
        have h2 := hs.out
        exact ⟨ret_fit (by unfold wrap64; omega), hw4⟩
    · rw [show ((j + 1 : Nat) : Int) - 1 = (j : Int) from by omega]
      obtain ⟨b, off, rfl, hc⟩ := HA4.out.cell j (by omega)
      have hd := dg_lt hA.small j
      have hbd := back_bound hinv.out
      have hor := or_join nv (dg A j) (by omega) hd
      go_wp2
      go_round
      case rel => exact ⟨j, nv * 65536 + dg A j, by omega, rfl, by go_num, back_step hinv.out⟩
      case measure => simp [intOf]

/-- what is told of the number x -/
def InR (x : Int) : Prop := -9223372036854775808 ≤ x ∧ x ≤ 9223372036854775807
theorem told_in (x : Int) (na : Bool) (ao : Option Addr) (la ca : Nat) (w : World) (Hna : Hid (na = decide (x < 0))) (hX : Mg w ao la ca x.natAbs) (h : InR x) :
    Calls Try.prog 51 #[.agg #[.bool na, .slice ao la ca]] w fun e w' => e = .returned (.tuple #[.int .i64 x, .int .i64 0]) ∧ Below w.heap.size w w' := by
  have hl := h.1
  have hu := h.2
  have hW0 := (Below.refl w.heap.size w).alloc (Nat.le_refl _) (.cells #[.bool na, .slice ao la ca] 59)
  go_enter Try.func51, Try.ntmps51
  go_wp2_with (go_at_call 33; refine (fits_in x na ao la ca _ Hna (hX.below (Nat.le_refl _) hW0) hl hu).mono ?_; rintro e w1 ⟨rfl, hB1⟩; have hw1 := hW0.trans (hB1.mono (by simp)))
  go_ret2
  exact ⟨rfl, hw1⟩
theorem told_out (x : Int) (na : Bool) (ao : Option Addr) (la ca : Nat) (w : World) (Hna : Hid (na = decide (x < 0))) (hX : Mg w ao la ca x.natAbs) (h : ¬ InR x) (hbig : Hid (x.natAbs < 65536 ^ 60)) :
    Calls Try.prog 51 #[.agg #[.bool na, .slice ao la ca]] w fun e w' => e = .returned (.tuple #[.int .i64 0, .int .i64 10]) ∧ Below w.heap.size w w' := by
  have hW0 := (Below.refl w.heap.size w).alloc (Nat.le_refl _) (.cells #[.bool na, .slice ao la ca] 59)
  have hc : x < -9223372036854775808 ∨ 9223372036854775807 < x := by unfold InR at h; omega
  clear h
  rcases hc with hc | hc
  · go_enter Try.func51, Try.ntmps51
    go_wp2_with (go_at_call 33; refine (fits_low x na ao la ca _ Hna (hX.below (Nat.le_refl _) hW0) hbig hc).mono ?_; rintro e w1 ⟨rfl, hB1⟩; have hw1 := hW0.trans (hB1.mono (by simp)))
    go_ret2
    exact ⟨rfl, hw1⟩
  · go_enter Try.func51, Try.ntmps51
    go_wp2_with (go_at_call 33; refine (fits_high x na ao la ca _ Hna (hX.below (Nat.le_refl _) hW0) hbig hc).mono ?_; rintro e w1 ⟨rfl, hB1⟩; have hw1 := hW0.trans (hB1.mono (by simp)))
    go_ret2
    exact ⟨rfl, hw1⟩

theorem out_eq {x : Int} (h : InR x) : (if -9223372036854775808 ≤ x ∧ x ≤ 9223372036854775807 then x else 0) = x := if_pos h
/-- the number and the error that are told of x -/
def nOf (x : Int) : Int := if -9223372036854775808 ≤ x ∧ x ≤ 9223372036854775807 then x else 0
def eOf (x : Int) : Int := if -9223372036854775808 ≤ x ∧ x ≤ 9223372036854775807 then 0 else 10
theorem told_is (x : Int) (na : Bool) (ao : Option Addr) (la ca : Nat) (w : World) (Hna : Hid (na = decide (x < 0))) (hX : Mg w ao la ca x.natAbs) (hbig : Hid (x.natAbs < 65536 ^ 60)) :
    Calls Try.prog 51 #[.agg #[.bool na, .slice ao la ca]] w fun e w' => e = .returned (.tuple #[.int .i64 (nOf x), .int .i64 (eOf x)]) ∧ Below w.heap.size w w' := by
  by_cases h : InR x
  · have e1 : nOf x = x := if_pos h
    have e2 : eOf x = 0 := if_pos h
    rw [e1, e2]; exact told_in x na ao la ca w Hna hX h
  · have e1 : nOf x = 0 := if_neg h
    have e2 : eOf x = 10 := if_neg h
    rw [e1, e2]; exact told_out x na ao la ca w Hna hX h hbig
theorem big60 (x : Int) (h : x.natAbs < 340282366920938463463374607431768211456) : x.natAbs < 65536 ^ 60 := Nat.lt_trans h (by decide)
theorem big64 (x : Int) (h : x.natAbs < 340282366920938463463374607431768211456) : x.natAbs < 65536 ^ 64 := Nat.lt_trans h (by decide)

theorem told_nat (m : Nat) (ao : Option Addr) (la ca : Nat) (w : World) (hX : Mg w ao la ca m) (hbig : m < 340282366920938463463374607431768211456) :
    Calls Try.prog 51 #[.agg #[.bool false, .slice ao la ca]] w fun e w' => e = .returned (.tuple #[.int .i64 (nOf m), .int .i64 (eOf m)]) ∧ Below w.heap.size w w' := by
  have h1 : false = decide ((m : Int) < 0) := by
    rw [decide_eq_false (by omega)]
  have h2 : Mg w ao la ca (m : Int).natAbs := by rw [Int.natAbs_natCast]; exact hX
  exact told_is m false ao la ca w h1 h2 (big60 _ (by omega))
end Go.Proofs.Ytkanjgphmafjbaa.Wd
