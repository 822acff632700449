/- The document's wide numbers: back to 64 bits. -/
import Derived.Test.YtkanjgphmafjbaaWideF
namespace Go.Proofs.Ytkanjgphmafjbaa.Wd
open Go.RowKit
set_option linter.unusedVariables false

theorem of_b (a : Int) (w : World) (l0 : -9223372036854775808 ≤ a) (u0 : a ≤ 9223372036854775807) :
    Calls Try.prog 46 #[.int .i64 a] w fun e w' => ∃ b ao len cap, e = .returned (.agg #[.bool b, .slice ao len cap]) ∧ Hid (b = decide (a < 0)) ∧ Mg w' ao len cap a.natAbs ∧ Below w.heap.size w w' := by
  refine (of_at a w l0 u0).mono ?_
  rintro e w' ⟨ao, len, cap, rfl, h1, h2⟩
  exact ⟨_, ao, len, cap, rfl, rfl, h1, h2⟩

theorem box1 {w W' : World} {na : Bool} {ao : Option Addr} {la ca : Nat} (h : Below (w.heap.size + 1) (w.alloc (.cells #[.bool na, .slice ao la ca] 59)) W') :
    W'.cell? ⟨w.heap.size, 0, none⟩ = some (.bool na) ∧ W'.cell? ⟨w.heap.size, 1, none⟩ = some (.slice ao la ca) := by
  have e1 := cell_two w _ rfl (.bool na) (.slice ao la ca) 59
  refine ⟨?_, ?_⟩
  · rw [h.cell (p := ⟨w.heap.size, 0, none⟩) (by simp)]; exact e1.1
  · rw [h.cell (p := ⟨w.heap.size, 1, none⟩) (by simp)]; exact e1.2

theorem big_sub (x y : Int) (h : x.natAbs < 65536 ^ 60) (hy : y.natAbs ≤ 9223372036854775808) : (x - y).natAbs < 65536 ^ 64 ∧ (y - x).natAbs < 65536 ^ 64 := by
  have h1 : 65536 ^ 60 + 9223372036854775808 < 65536 ^ 64 := by decide
  generalize 65536 ^ 60 = p at *
  generalize 65536 ^ 64 = q at *
  omega
theorem less_v (x y : Int) (r : Bool) (na nb : Bool) (ao bo : Option Addr) (la ca lb cb : Nat) (w : World) (Hna : Hid (na = decide (x < 0))) (Hnb : Hid (nb = decide (y < 0))) (hX : Mg w ao la ca x.natAbs) (hY : Mg w bo lb cb y.natAbs) (hbig : Hid ((x - y).natAbs < 65536 ^ 64)) (hr : decide (x < y) = r) :
    Calls Try.prog 45 #[.agg #[.bool na, .slice ao la ca], .agg #[.bool nb, .slice bo lb cb]] w fun e w' => e = .returned (.bool r) ∧ Below w.heap.size w w' := by
  subst hr; exact less_b x y na nb ao bo la ca lb cb w Hna Hnb hX hY hbig (show _ = _ by rw [decide_eq_decide]; omega)
theorem less_dec (x y : Int) : decide (x - y < 0) = decide (x < y) := by rw [decide_eq_decide]; omega

set_option maxHeartbeats 1000000 in
theorem fits_low (x : Int) (na : Bool) (ao : Option Addr) (la ca : Nat) (w : World) (Hna : Hid (na = decide (x < 0))) (hX : Mg w ao la ca x.natAbs) (hbig : Hid (x.natAbs < 65536 ^ 60)) (hlow : x < -9223372036854775808) :
    Calls Try.prog 33 #[.agg #[.bool na, .slice ao la ca]] w fun e w' => e = .returned (.tuple #[.int .i64 0, .bool false]) ∧ Below w.heap.size w w' := by
  have hW0 := (Below.refl w.heap.size w).alloc (Nat.le_refl _) (.cells #[.bool na, .slice ao la ca] 59)
  have hWW := Below.refl (w.heap.size + 1) (w.alloc (.cells #[.bool na, .slice ao la ca] 59))
  have hWs : (w.alloc (.cells #[.bool na, .slice ao la ca] 59)).heap.size = w.heap.size + 1 := by simp
  go_enter Try.func33, Try.ntmps33
  go_wp2
  go_region_with (first
    | (go_at_call 46; refine (of_b _ _ (by omega) (by omega)).mono ?_; rintro e w1 ⟨b1, ro, lr, cr, rfl, Hb1, hR, hB1⟩; have hN1 := hWW.drew.trans (hB1.mono (Nat.le_of_eq hWs.symm)); have hw1 := hW0.drew.trans (hB1.mono (Nat.le_of_lt (by rw [World.size_drew, hWs]; omega))); obtain ⟨q0, q1⟩ := box1 hN1)
    | (go_at_call 45; refine (less_b x (-9223372036854775808) na b1 ao ro la ca lr cr _ Hna Hb1 (hX.below (Nat.le_refl _) hw1) hR (big_sub x _ hbig.out (by decide)).1 (less_dec _ _)).mono ?_; rintro e w2 ⟨rfl, hB2⟩; have hN2 := hN1.trans (hB2.mono (by have := hN1.size; omega)); have hw2 := hw1.trans (hB2.mono hw1.size)))
  all_goals
    go_wp2
    go_ret2
    exact ⟨rfl, hw2⟩

set_option maxHeartbeats 2000000 in
theorem fits_high (x : Int) (na : Bool) (ao : Option Addr) (la ca : Nat) (w : World) (Hna : Hid (na = decide (x < 0))) (hX : Mg w ao la ca x.natAbs) (hbig : Hid (x.natAbs < 65536 ^ 60)) (hhigh : 9223372036854775807 < x) :
    Calls Try.prog 33 #[.agg #[.bool na, .slice ao la ca]] w fun e w' => e = .returned (.tuple #[.int .i64 0, .bool false]) ∧ Below w.heap.size w w' := by
  have hW0 := (Below.refl w.heap.size w).alloc (Nat.le_refl _) (.cells #[.bool na, .slice ao la ca] 59)
  have hWW := Below.refl (w.heap.size + 1) (w.alloc (.cells #[.bool na, .slice ao la ca] 59))
  have hWs : (w.alloc (.cells #[.bool na, .slice ao la ca] 59)).heap.size = w.heap.size + 1 := by simp
  have hlow : ¬ x < -9223372036854775808 := by omega
  go_enter Try.func33, Try.ntmps33
  go_wp2
  go_region_held3 (fun w' => w'.cell? ⟨w.heap.size, 0, none⟩ = some (.bool na) ∧ w'.cell? ⟨w.heap.size, 1, none⟩ = some (.slice ao la ca)) (first | exact box1 hWW.drew | exact box1 hN1 | exact box1 hN2 | exact box1 hN3 | exact box1 hN4)
    (first
      | (go_at_call 45; have _t := hN3; refine (less_v 9223372036854775807 x true b3 na ro3 ao lr3 cr3 la ca _ Hb3 Hna hR3 (hX.below (Nat.le_refl _) hw3) (big_sub x _ hbig.out (by decide)).2 (decide_eq_true (by omega))).mono ?_; rintro e w4 ⟨rfl, hB4⟩; have hN4 := hN3.trans (hB4.mono (by have := hN3.size; omega)); have hw4 := hw3.trans (hB4.mono hw3.size))
      | (go_at_call 46; have _t := hN2; refine (of_b _ _ (by omega) (by omega)).mono ?_; rintro e w3 ⟨b3, ro3, lr3, cr3, rfl, Hb3, hR3, hB3⟩; have hN3 := hN2.trans (hB3.mono (by have := hN2.size; omega)); have hw3 := hw2.trans (hB3.mono hw2.size))
      | (go_at_call 45; refine (less_v x (-9223372036854775808) false na b1 ao ro la ca lr cr _ Hna Hb1 (hX.below (Nat.le_refl _) hw1) hR (big_sub x _ hbig.out (by decide)).1 (decide_eq_false (by omega))).mono ?_; rintro e w2 ⟨rfl, hB2⟩; have hN2 := hN1.trans (hB2.mono (by have := hN1.size; omega)); have hw2 := hw1.trans (hB2.mono hw1.size))
      | (go_at_call 46; refine (of_b _ _ (by omega) (by omega)).mono ?_; rintro e w1 ⟨b1, ro, lr, cr, rfl, Hb1, hR, hB1⟩; have hN1 := hWW.drew.trans (hB1.mono (Nat.le_of_eq hWs.symm)); have hw1 := hW0.drew.trans (hB1.mono (Nat.le_of_lt (by rw [World.size_drew, hWs]; omega)))))
  all_goals
    go_wp2
    go_ret2
    exact ⟨rfl, hw4⟩
end Go.Proofs.Ytkanjgphmafjbaa.Wd
