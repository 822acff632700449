/- The program's set: Join, Meet, Less as sets; Same. -/
import Derived.Test.YtholafecbmhhhaaBitI
namespace Go.Proofs.Ytholafecbmhhhaa.Dg
open Go.RowKit
set_option linter.unusedVariables false

abbrev joinC (C D : List Nat) (m : Nat) : List Nat := mixU (fun a b => a ||| b) C D m
abbrev meetC (C D : List Nat) (m : Nat) : List Nat := mixU (fun a b => a &&& b) C D m
abbrev lessC (C D : List Nat) (m : Nat) : List Nat := mixU (fun a b => a &&& (18446744073709551615 - b)) C D m
theorem getD_over (C : List Nat) (q : Nat) (h : C.length ≤ q) : C.getD q 0 = 0 := by
  rw [List.getD_eq_getElem?_getD, List.getElem?_eq_none h, Option.getD_none]
theorem bitAt_mixU (f : Nat → Nat → Nat) (bf : Bool → Bool → Bool) (C D : List Nat) (m i : Nat) (hC : C.length = m) (hD : D.length = m) (h0 : bf false false = false)
    (hf : ∀ a b r, a < 18446744073709551616 → b < 18446744073709551616 → r < 64 → (f a b).testBit r = bf (a.testBit r) (b.testBit r)) (hCl : ∀ q, C.getD q 0 < 18446744073709551616) (hDl : ∀ q, D.getD q 0 < 18446744073709551616) :
    bitAt (mixU f C D m) i = bf (bitAt C i) (bitAt D i) := by
  unfold bitAt
  by_cases h : i / 64 < m
  · rw [mixU_lt f C D m _ h (by omega)]
    exact hf _ _ _ (hCl _) (hDl _) (by omega)
  · rw [getD_over _ _ (by rw [mixU_length]; omega), getD_over C _ (by omega), getD_over D _ (by omega)]
    simp [h0]
theorem or_bits (a b r : Nat) : (a ||| b).testBit r = (a.testBit r || b.testBit r) := Nat.testBit_or a b r
theorem and_bits (a b r : Nat) : (a &&& b).testBit r = (a.testBit r && b.testBit r) := Nat.testBit_and a b r
theorem andNot_bits (a b r : Nat) (hb : b < 18446744073709551616) (hr : r < 64) : (a &&& (18446744073709551615 - b)).testBit r = (a.testBit r && !b.testBit r) := by
  rw [Nat.testBit_and, show 18446744073709551615 - b = 2 ^ 64 - (b + 1) from by omega, Nat.testBit_two_pow_sub_succ hb, decide_eq_true hr, Bool.true_and]
theorem bit_join {w w' : World} {p g p' g' n m : Nat} {C D : List Nat} (h : Bs w p g n m C) (k : Bs w' p' g' n m D) (i : Nat) : bitAt (joinC C D m) i = (bitAt C i || bitAt D i) :=
  bitAt_mixU _ (fun a b => a || b) C D m i h.clen k.clen rfl (fun a b r _ _ _ => or_bits a b r) h.clt k.clt
theorem bit_meet {w w' : World} {p g p' g' n m : Nat} {C D : List Nat} (h : Bs w p g n m C) (k : Bs w' p' g' n m D) (i : Nat) : bitAt (meetC C D m) i = (bitAt C i && bitAt D i) :=
  bitAt_mixU _ (fun a b => a && b) C D m i h.clen k.clen rfl (fun a b r _ _ _ => and_bits a b r) h.clt k.clt
theorem bit_less {w w' : World} {p g p' g' n m : Nat} {C D : List Nat} (h : Bs w p g n m C) (k : Bs w' p' g' n m D) (i : Nat) : bitAt (lessC C D m) i = (bitAt C i && !bitAt D i) :=
  bitAt_mixU _ (fun a b => a && !b) C D m i h.clen k.clen rfl (fun a b r _ hb hr => andNot_bits a b r hb hr) h.clt k.clt
theorem mixU_bound (f : Nat → Nat → Nat) (C D : List Nat) (m : Nat) (hC : C.length = m) (hf : ∀ q, f (C.getD q 0) (D.getD q 0) < 18446744073709551616) : ∀ x ∈ mixU f C D m, x < 18446744073709551616 := by
  intro x hx
  obtain ⟨i, hi, rfl⟩ := List.getElem_of_mem hx
  have hi' := hi
  rw [mixU_length, hC] at hi'
  have := mixU_lt f C D m i hi' (by omega)
  rw [List.getD_eq_getElem?_getD, List.getElem?_eq_getElem hi, Option.getD_some] at this
  rw [this]
  exact hf i
/-- behind a row written -/
theorem Bs.mixed {w w' : World} {p g n m : Nat} {C C' : List Nat} (h : Bs w p g n m C) (hr : w'.ownsRow 0 77 1 (.slice (some ⟨g, 0, none⟩) m m) m (cellsU C')) (hG : w.grownBy w' (some g)) (hlt : ∀ x ∈ C', x < 18446744073709551616) (hhi : ∀ i, n ≤ i → bitAt C' i = false) : Bs w' p g n m C' := by
  have hb : w'.heap[p]? = w.heap[p]? := hG.block p h.plt (fun e => by injection e with e; exact h.ne e)
  exact ⟨(World.cell?_of_block (a := ⟨p, 0, none⟩) hb).trans h.sz, (World.cell?_of_block (a := ⟨p, 1, none⟩) hb).trans h.at_c, hr, h.small, h.len, hlt, hhi, h.ne⟩
theorem join_at (p g p' g' n m : Nat) (C D : List Nat) (w : World) (h : Bs w p g n m C) (k : Bs w p' g' n m D) (hpg : p' ≠ g) :
    Calls Try.prog 16 #[at_p p, at_p p'] w fun e w' => e = .returned (.int .i64 0) ∧ Bs w' p g n m (joinC C D m) ∧ w.grownBy w' (some g) := by
  refine (join_raw p g p' g' n m C D w h k hpg).mono ?_
  rintro e w' ⟨rfl, hr, hG⟩
  refine ⟨rfl, h.mixed hr hG (mixU_bound _ C D m h.clen fun q => Nat.or_lt_two_pow (n := 64) (h.clt q) (k.clt q)) (fun i hi => ?_), hG⟩
  rw [bit_join h k, h.hi i hi, k.hi i hi]; rfl
theorem meet_at (p g p' g' n m : Nat) (C D : List Nat) (w : World) (h : Bs w p g n m C) (k : Bs w p' g' n m D) (hpg : p' ≠ g) :
    Calls Try.prog 18 #[at_p p, at_p p'] w fun e w' => e = .returned (.int .i64 0) ∧ Bs w' p g n m (meetC C D m) ∧ w.grownBy w' (some g) := by
  refine (meet_raw p g p' g' n m C D w h k hpg).mono ?_
  rintro e w' ⟨rfl, hr, hG⟩
  refine ⟨rfl, h.mixed hr hG (mixU_bound _ C D m h.clen fun q => Nat.and_lt_two_pow (n := 64) _ (k.clt q)) (fun i hi => ?_), hG⟩
  rw [bit_meet h k, h.hi i hi]; rfl
theorem less_at (p g p' g' n m : Nat) (C D : List Nat) (w : World) (h : Bs w p g n m C) (k : Bs w p' g' n m D) (hpg : p' ≠ g) :
    Calls Try.prog 19 #[at_p p, at_p p'] w fun e w' => e = .returned (.int .i64 0) ∧ Bs w' p g n m (lessC C D m) ∧ w.grownBy w' (some g) := by
  refine (less_raw p g p' g' n m C D w h k hpg).mono ?_
  rintro e w' ⟨rfl, hr, hG⟩
  refine ⟨rfl, h.mixed hr hG (mixU_bound _ C D m h.clen fun q => Nat.and_lt_two_pow (n := 64) _ (Nat.lt_of_le_of_lt (Nat.sub_le _ _) (by decide))) (fun i hi => ?_), hG⟩
  rw [bit_less h k, h.hi i hi]; rfl

/-- two sets' cells are the same just if their numbers are -/
theorem eq_of_bits {w w' : World} {p g p' g' n m : Nat} {C D : List Nat} (h : Bs w p g n m C) (k : Bs w' p' g' n m D) (hb : ∀ i, bitAt C i = bitAt D i) : C = D := by
  apply List.ext_getElem (by rw [h.clen, k.clen])
  intro q h1 h2
  have hq : C.getD q 0 = D.getD q 0 := by
    apply Nat.eq_of_testBit_eq
    intro r
    by_cases hr : r < 64
    · have := hb (64 * q + r)
      unfold bitAt at this
      rwa [show (64 * q + r) / 64 = q from by omega, show (64 * q + r) % 64 = r from by omega] at this
    · rw [Nat.testBit_lt_two_pow (Nat.lt_of_lt_of_le (h.clt q) (Nat.pow_le_pow_right (n := 2) (by omega) (show 64 ≤ r by omega))), Nat.testBit_lt_two_pow (Nat.lt_of_lt_of_le (k.clt q) (Nat.pow_le_pow_right (n := 2) (by omega) (show 64 ≤ r by omega)))]
  rwa [List.getD_eq_getElem?_getD, List.getD_eq_getElem?_getD, List.getElem?_eq_getElem h1, List.getElem?_eq_getElem h2, Option.getD_some, Option.getD_some] at hq

set_option maxHeartbeats 2000000 in
theorem bsame_at (p g p' g' n m : Nat) (C D : List Nat) (r : Bool) (w : World) (h : Bs w p g n m C) (k : Bs w p' g' n m D) (hr : r = true ↔ C = D) :
    Calls Try.prog 24 #[at_p p, at_p p'] w fun e w' => e = .returned (.bool r) ∧ w.drewN 1 = w' := by
  have hm64 : m ≤ 64 := by have := h.len; have := h.small; omega
  have HX : Hid (Calls Try.prog 45 #[at_p p, at_p p'] w fun e w' => e = .returned (.int .i64 0) ∧ w.drewN 1 = w') := other_at p g n m p' g' n m C D 0 w h k (by rw [if_pos rfl])
  have HR : Hid (r = true ↔ C = D) := hr
  have HCl : Hid (C.length = m) := h.clen
  have HDl : Hid (D.length = m) := k.clen
  have h1 := h.below (Nat.le_refl _) (below_drewN _ w 1)
  have k1 := k.below (Nat.le_refl _) (below_drewN _ w 1)
  have hc := h1.at_c
  have hd := k1.at_c
  clear hr
  go_enter Try.func24, Try.ntmps24
  go_wp2_with (go_at_call 45; refine HX.out.mono ?_; rintro e w' ⟨rfl, rfl⟩)
  go_loop [16] (fun i => ∃ j : Nat, j ≤ m ∧ i = .int .i64 j ∧ Hid (∀ a, a < j → C.getD a 0 = D.getD a 0)) (fun i => m - (intOf i).toNat)
  case atStart => exact ⟨0, Nat.zero_le _, rfl, fun a ha => absurd ha (by omega)⟩
  case round =>
    obtain ⟨j, hj, rfl, hall⟩ := hrel
    by_cases hlt : j < m
    · have hx := h1.cell j hlt
      have hy := k1.cell j hlt
      by_cases he : C.getD j 0 = D.getD j 0
      · have HE : Hid (C.getD j 0 = D.getD j 0) := he
        rw [he] at hx
        clear he
        generalize D.getD j 0 = y at hx hy
        go_wp2
        go_round
        case rel =>
          refine ⟨j + 1, by omega, by go_num, fun a ha => ?_⟩
          rcases Nat.lt_succ_iff_lt_or_eq.1 ha with ha | rfl
          · exact hall.out a ha
          · exact HE.out
        case measure => simp [intOf]; omega
      · have HE : Hid (r = false) := by
          cases r with
          | false => rfl
          | true => exact absurd (by rw [HR.out.1 rfl]) he
        generalize C.getD j 0 = x at hx he
        generalize D.getD j 0 = y at hy he
        have he' : ¬ (x : Int) = (y : Int) := by omega
        clear he
        go_wp2
        go_ret
        exact ⟨retB HE.out.symm, rfl⟩
    · obtain rfl : j = m := by omega
      have HE : Hid (r = true) := HR.out.2 (by
        apply List.ext_getElem (by rw [HCl.out, HDl.out])
        intro i g1 g2
        have := hall.out i (by rw [HCl.out] at g1; exact g1)
        rwa [List.getD_eq_getElem?_getD, List.getD_eq_getElem?_getD, List.getElem?_eq_getElem g1, List.getElem?_eq_getElem g2, Option.getD_some, Option.getD_some] at this)
      go_wp2
      go_ret
      exact ⟨retB HE.out.symm, rfl⟩
end Go.Proofs.Ytholafecbmhhhaa.Dg
