/- The document's Floor: the walk. -/
import Derived.Test.YtkanjgphmafjbaaWideQ
import Derived.Test.YtkanjgphmafjbaaFloorMath
import Derived.Deep.DeepCutAuto
import Derived.Deep.LoopGhost
import Derived.Deep.DrawnRows
namespace Go.Proofs.Ytkanjgphmafjbaa.Wd
open Go.RowKit
set_option linter.unusedVariables false
attribute [local go_sem ↓] Go.wp_at_zero Go.wp_at_succ

theorem bx_new (W : World) (p : Nat) (h : W.heap.size = p) (ao : Option Addr) (l c : Nat) : Bx (W.alloc (.cells #[.bool false, .slice ao l c] 59)) p ao l c := by
  have e := cell_two W p h (.bool false) (.slice ao l c) 59
  have f := free_two W p h (.bool false) (.slice ao l c) 59
  exact ⟨e.1, e.2, f.1, f.2⟩

/-- what lies at the loop's beginning -/
theorem floor_start {w w1 w2 w3 w4 : World} {o1 o2 o3 o4 : Option Addr} {k1 c1 k2 c2 k3 c3 k4 c4 : Nat} {m d : Nat} (hR1 : Mg w1 o1 k1 c1 m) (hB1 : Below w.heap.size w w1) (hR2 : Mg w2 o2 k2 c2 d) (hB2 : Below w1.heap.size w1 w2)
    (hR3 : Mg w3 o3 k3 c3 0) (hB3 : Below ((w2.alloc (.cells #[.bool false, .slice o1 k1 c1] 59)).alloc (.cells #[.bool false, .slice o2 k2 c2] 59)).heap.size ((w2.alloc (.cells #[.bool false, .slice o1 k1 c1] 59)).alloc (.cells #[.bool false, .slice o2 k2 c2] 59)) w3)
    (hR4 : Mg w4 o4 k4 c4 0) (hB4 : Below w3.heap.size w3 w4) :
    St w ((w4.alloc (.cells #[.bool false, .slice o3 k3 c3] 59)).alloc (.cells #[.bool false, .slice o4 k4 c4] 59)) w2.heap.size (w2.heap.size + 1) w4.heap.size (w4.heap.size + 1) o1 o2 o3 o4 k1 c1 k2 c2 k3 c3 k4 c4 m d 0 0 := by
  have hs1 := hB1.size
  have hs2 := hB2.size
  have hs3 := hB3.size
  have hs4 := hB4.size
  have e2 : ((w2.alloc (.cells #[.bool false, .slice o1 k1 c1] 59)).alloc (.cells #[.bool false, .slice o2 k2 c2] 59)).heap.size = w2.heap.size + 2 := by simp
  rw [e2] at hs3
  -- the two new blocks behind w2, the two behind w4
  have n1 : Below w2.heap.size w2 (w2.alloc (.cells #[.bool false, .slice o1 k1 c1] 59)) := (Below.refl _ _).alloc (Nat.le_refl _) _
  have n2 : Below (w2.heap.size + 1) (w2.alloc (.cells #[.bool false, .slice o1 k1 c1] 59)) ((w2.alloc (.cells #[.bool false, .slice o1 k1 c1] 59)).alloc (.cells #[.bool false, .slice o2 k2 c2] 59)) := (Below.refl _ _).alloc (by simp) _
  have n3 : Below (w2.heap.size + 2) ((w2.alloc (.cells #[.bool false, .slice o1 k1 c1] 59)).alloc (.cells #[.bool false, .slice o2 k2 c2] 59)) w4 := (hB3.mono (by rw [e2]; exact Nat.le_refl _)).trans (hB4.mono hs3)
  have n4 : Below w4.heap.size w4 (w4.alloc (.cells #[.bool false, .slice o3 k3 c3] 59)) := (Below.refl _ _).alloc (Nat.le_refl _) _
  have n5 : Below (w4.heap.size + 1) (w4.alloc (.cells #[.bool false, .slice o3 k3 c3] 59)) ((w4.alloc (.cells #[.bool false, .slice o3 k3 c3] 59)).alloc (.cells #[.bool false, .slice o4 k4 c4] 59)) := (Below.refl _ _).alloc (by simp) _
  have n45 := n4.trans (n5.mono (Nat.le_succ _))
  have x1 := (((bx_new w2 _ rfl o1 k1 c1).below n2 (by omega)).below n3 (by omega)).below n45 (by omega)
  have x2 := ((bx_new (w2.alloc (.cells #[.bool false, .slice o1 k1 c1] 59)) (w2.heap.size + 1) (by simp) o2 k2 c2).below n3 (by omega)).below n45 (by omega)
  have x3 := (bx_new w4 _ rfl o3 k3 c3).below n5 (by omega)
  have x4 := bx_new (w4.alloc (.cells #[.bool false, .slice o3 k3 c3] 59)) (w4.heap.size + 1) (by simp) o4 k4 c4
  have b24 : Below w2.heap.size w2 w4 := (n1.trans (n2.mono (Nat.le_succ _))).trans (n3.mono (by omega))
  have m1 := ((hR1.below (Nat.le_refl _) hB2).below (Nat.le_refl _) b24).below (Nat.le_refl _) n45
  have m2 := (hR2.below (Nat.le_refl _) b24).below (Nat.le_refl _) n45
  have m3 := (hR3.below (Nat.le_refl _) hB4).below (Nat.le_refl _) n45
  have m4 := hR4.below (Nat.le_refl _) n45
  exact ⟨x1, x2, x3, x4, m1, m2, m3, m4, ((hB1.trans (hB2.mono hs1)).trans (b24.mono (by omega))).trans (n45.mono (by omega)), by omega, by omega, by omega, by omega, by simp⟩
theorem floor_first {w2 w3 w4 : World} {o1 o2 : Option Addr} {k1 c1 k2 c2 : Nat} (hB3 : Below ((w2.alloc (.cells #[.bool false, .slice o1 k1 c1] 59)).alloc (.cells #[.bool false, .slice o2 k2 c2] 59)).heap.size ((w2.alloc (.cells #[.bool false, .slice o1 k1 c1] 59)).alloc (.cells #[.bool false, .slice o2 k2 c2] 59)) w3)
    (hB4 : Below w3.heap.size w3 w4) : w4.cell? ⟨w2.heap.size, 1, none⟩ = some (.slice o1 k1 c1) ∧ w2.heap.size < w4.heap.size := by
  have hs3 := hB3.size
  have hs4 := hB4.size
  have e2 : ((w2.alloc (.cells #[.bool false, .slice o1 k1 c1] 59)).alloc (.cells #[.bool false, .slice o2 k2 c2] 59)).heap.size = w2.heap.size + 2 := by simp
  rw [e2] at hs3
  have n3 : Below (w2.heap.size + 2) ((w2.alloc (.cells #[.bool false, .slice o1 k1 c1] 59)).alloc (.cells #[.bool false, .slice o2 k2 c2] 59)) w4 := (hB3.mono (by rw [e2]; exact Nat.le_refl _)).trans (hB4.mono hs3)
  have n2 : Below (w2.heap.size + 1) (w2.alloc (.cells #[.bool false, .slice o1 k1 c1] 59)) ((w2.alloc (.cells #[.bool false, .slice o1 k1 c1] 59)).alloc (.cells #[.bool false, .slice o2 k2 c2] 59)) := (Below.refl _ _).alloc (by simp) _
  exact ⟨(((bx_new w2 _ rfl o1 k1 c1).below n2 (by omega)).below n3 (by omega)).c1, by omega⟩

theorem bit_form (D i : Nat) (h : D < 65536) : IntKind.i64.wrap (bits .and .u64 ((D : Int) / 2 ^ ((i : Int) % 16).toNat) 1) = ((D / 2 ^ (i % 16) % 2 : Nat) : Int) := by
  have e1 : ((i : Int) % 16).toNat = i % 16 := by omega
  rw [e1]
  have e2 : ((D : Int) / 2 ^ (i % 16)) = ((D / 2 ^ (i % 16) : Nat) : Int) := by
    rw [Int.natCast_ediv, Int.natCast_pow]; rfl
  rw [e2]
  have h2 : D / 2 ^ (i % 16) ≤ D := Nat.div_le_self _ _
  generalize D / 2 ^ (i % 16) = E at *
  have e3 := u64_and_nat E 1 (by omega) (by omega)
  rw [nat_mask1] at e3
  rw [show ((1 : Int)) = ((1 : Nat) : Int) from rfl, e3, IntKind.wrap_i64]
  omega

theorem mg_pos {w : World} {ao : Option Addr} {l c m : Nat} (h : Mg w ao l c m) : 0 < m ↔ 0 < l := by
  obtain ⟨A, hA, nA, vA, lA⟩ := h
  rw [← vA, ← val_pos nA, hA.eqlen]
theorem stored_cells {w : World} {R : Nat} {a b u v : Value} (h0 : w.cell? ⟨R, 0, none⟩ = some a) (h1 : w.cell? ⟨R, 1, none⟩ = some b) (f0 : w.frozen? ⟨R, 0, none⟩ = false) (f1 : w.frozen? ⟨R, 1, none⟩ = false) :
    ((w.setCell ⟨R, 0, none⟩ u).setCell ⟨R, 1, none⟩ v).cell? ⟨R, 0, none⟩ = some u ∧ ((w.setCell ⟨R, 0, none⟩ u).setCell ⟨R, 1, none⟩ v).cell? ⟨R, 1, none⟩ = some v ∧
    ((w.setCell ⟨R, 0, none⟩ u).setCell ⟨R, 1, none⟩ v).frozen? ⟨R, 0, none⟩ = false ∧ ((w.setCell ⟨R, 0, none⟩ u).setCell ⟨R, 1, none⟩ v).frozen? ⟨R, 1, none⟩ = false ∧ ((w.setCell ⟨R, 0, none⟩ u).setCell ⟨R, 1, none⟩ v).heap.size = w.heap.size := by
  have e1 : (w.setCell ⟨R, 0, none⟩ u).cell? ⟨R, 1, none⟩ = some b := by
    rw [World.cell?_setCell_other]
    · exact h1
    · simp
  have e0 : (w.setCell ⟨R, 0, none⟩ u).cell? ⟨R, 0, none⟩ = some u := World.cell?_setCell_same _ _ _ h0
  refine ⟨?_, World.cell?_setCell_same _ _ _ e1, ?_, ?_, by simp⟩
  · rw [World.cell?_setCell_other]
    · exact e0
    · simp
  · simpa using f0
  · simpa using f1

theorem keep4 {X W : World} {R n : Nat} {a b : Value} (h : X.cell? ⟨R, 0, none⟩ = some a ∧ X.cell? ⟨R, 1, none⟩ = some b ∧ X.frozen? ⟨R, 0, none⟩ = false ∧ X.frozen? ⟨R, 1, none⟩ = false ∧ X.heap.size = n) (hn : R < n) (hb : Below X.heap.size X W) :
    W.cell? ⟨R, 0, none⟩ = some a ∧ W.cell? ⟨R, 1, none⟩ = some b ∧ W.frozen? ⟨R, 0, none⟩ = false ∧ W.frozen? ⟨R, 1, none⟩ = false := by
  obtain ⟨h0, h1, h2, h3, h4⟩ := h
  have hR : R < X.heap.size := by omega
  exact ⟨(hb.cell (p := ⟨R, 0, none⟩) hR).trans h0, (hb.cell (p := ⟨R, 1, none⟩) hR).trans h1, (hb.frozen (p := ⟨R, 0, none⟩) hR).trans h2, (hb.frozen (p := ⟨R, 1, none⟩) hR).trans h3⟩
theorem drew_below {X W : World} (h : Below X.drew.heap.size X.drew W) : Below X.heap.size X W := ((Below.refl X.heap.size X).drew).trans h
theorem ret_num {x y : Int} (h : x = y) : Ending.returned (.tuple #[.int .i64 (nOf x), .int .i64 (eOf x)]) = .returned (.tuple #[.int .i64 (nOf y), .int .i64 (eOf y)]) := by rw [h]

set_option maxHeartbeats 4000000 in
theorem ref_floor (a b : Int) (w : World) (l0 : -9223372036854775808 ≤ a) (u0 : a ≤ 9223372036854775807) (l1 : -9223372036854775808 ≤ b) (u1 : b ≤ 9223372036854775807) (hb : ¬ b = 0) :
    Calls Try.prog 35 #[.int .i64 a, .int .i64 b] w fun e w' => e = .returned (.tuple #[.int .i64 (nOf (a.fdiv b)), .int .i64 (eOf (a.fdiv b))]) ∧ Below w.heap.size w w' := by
  have hb0 : (b == 0) = false := beq_eq_false_iff_ne.2 hb
  have hf1 := field1
  go_enter Try.func35, Try.ntmps35
  go_wp2_with (first
    | (go_at_call 46; have _t := hB3; refine (ofN 0 _ (by omega)).mono ?_; rintro e w4 ⟨o4, k4, c4, rfl, hR4, hB4⟩; obtain ⟨q1, q2⟩ := floor_first hB3 hB4)
    | (go_at_call 46; have _t := hB2; refine (ofN 0 _ (by omega)).mono ?_; rintro e w3 ⟨o3, k3, c3, rfl, hR3, hB3⟩)
    | (go_at_call 46; have _t := hB1; refine (ofAbs b _ l1 u1).mono ?_; rintro e w2 ⟨b2, o2, k2, c2, rfl, hR2, hB2⟩)
    | (go_at_call 46; refine (ofAbs a _ l0 u0).mono ?_; rintro e w1 ⟨b1, o1, k1, c1, rfl, hR1, hB1⟩; obtain ⟨A, hA, nA, vA, lA⟩ := hR1; have hR1 : Mg w1 o1 k1 c1 a.natAbs := ⟨A, hA, nA, vA, lA⟩; have HA : Hid (Small A ∧ A.length = k1 ∧ val A = a.natAbs) := ⟨hA.small, hA.eqlen, vA⟩; clear hA nA vA))
  have hst := floor_start hR1 hB1 hR2 hB2 hR3 hB3 hR4 hB4
  have HS0 : Hid _ := hst
  have hm0 : a.natAbs ≤ 9223372036854775808 := by omega
  have hd0 : 0 < b.natAbs := by omega
  have hd1 : b.natAbs ≤ 9223372036854775808 := by omega
  obtain ⟨m, hm⟩ : ∃ m, m = a.natAbs := ⟨_, rfl⟩
  obtain ⟨d, hd⟩ : ∃ d, d = b.natAbs := ⟨_, rfl⟩
  rw [← hm] at hst hm0 HA
  rw [← hd] at hst hd0 hd1
  have hM : Hid (m = a.natAbs) := hm
  have hD : Hid (d = b.natAbs) := hd
  have hz : Hid (m / 2 ^ (16 * k1) = 0) := by
    have h1 := val_lt HA.out.1
    rw [HA.out.2.1, HA.out.2.2, show (65536 : Nat) = 2 ^ 16 from rfl, ← Nat.pow_mul] at h1
    exact Nat.div_eq_of_lt h1
  clear hR1 hR2 hR3 hR4 hB1 hB2 hB3 hB4 q1 hm hd HS0
  go_loopg [10] (16 * k1) (fun n i wr => ∃ (q r : Nat) (qo ro : Option Addr) (ql qc rl rc : Nat), n ≤ 16 * k1 ∧ i = .int .i64 ((n : Int) - 1) ∧ St w wr w2.heap.size (w2.heap.size + 1) w4.heap.size (w4.heap.size + 1) o1 o2 qo ro k1 c1 k2 c2 ql qc rl rc m d q r ∧ Hid (q * d + r = m / 2 ^ n) ∧ Hid (r < d))
  case atStart => exact ⟨0, 0, o3, o4, k3, c3, k4, c4, Nat.le_refl _, by go_num, hst, (by show _ = _; rw [hz.out]; omega), hd0⟩
  case round =>
    obtain ⟨q, r, qo, ro, ql, qc, rl, rc, hn, rfl, hS, hinv, hr⟩ := hrel
    clear hst hz
    rcases gk with _ | i
    · have he := quo_end hinv.out hr.out
      have HE : Hid (q = m / d ∧ r = m % d) := he
      have hqb := quo_bound hinv.out hd0 hm0
      have hrd := hr.out
      clear he hinv hr
      obtain ⟨q0, q1, qf0, qf1⟩ := hS.bq
      obtain ⟨r0, r1, rf0, rf1⟩ := hS.br
      have hQw : w.heap.size ≤ w4.heap.size := by have := hS.o0; have := hS.o1; have := hS.o2; omega
      by_cases han : a < 0
      · by_cases hbn : b < 0
        · skip
          have hfin : Hid ((q : Int) = a.fdiv b) := by
            show (q : Int) = _
            rw [← floor_like a b hb (by omega), HE.out.1, hM.out, hD.out]
          go_wp2_with (go_at_call 51; refine (told_nat q qo ql qc _ hS.mq (by omega)).mono ?_; rintro e w20 ⟨rfl, hB20⟩)
          go_ret2
          exact ⟨ret_num hfin.out, hS.bel.trans (hB20.mono hS.bel.size)⟩
        · skip
          have hfin : Hid (a.fdiv b = -(q : Int) - (if 0 < r then 1 else 0)) := by
            show a.fdiv b = _
            rw [floor_unlike a b hb (by omega), HE.out.1, HE.out.2, hM.out, hD.out]
          by_cases hr0 : 0 < r
          · have hrl := (mg_pos hS.mr).1 hr0
            have hfin2 : Hid (a.fdiv b = -(q : Int) + -1) := by
              show _ = _
              rw [hfin.out, if_pos hr0]; omega
            go_wp2_with (go_at_call 50; refine (minusN q qo ql qc _ hS.mq).mono ?_; rintro e w21 ⟨b21, o21, k21, c21, rfl, Hb21, hR21, hB21⟩; have hS21 := hS.below hB21; obtain ⟨q021, q121, qf021, qf121⟩ := hS21.bq; obtain ⟨r021, r121, rf021, rf121⟩ := hS21.br)
            have st := stored_cells (u := .bool b21) (v := .slice o21 k21 c21) q021 q121 qf021 qf121
            have hRn : w4.heap.size < w21.heap.size := Nat.lt_trans (Nat.lt_succ_self _) hS21.o4
            have hM21 := hR21.stored (b1 := b21) q021 q121 (.slice o21 k21 c21)
            have hbel21 := two_below hS21.bel hQw (.bool b21) (.slice o21 k21 c21)
            go_region_with (first
              | (go_at_call 46; refine (of_b (-1) _ (by omega) (by omega)).mono ?_; rintro e w22 ⟨b22, o22, k22, c22, rfl, Hb22, hR22, hB22⟩; have hd22 := drew_below hB22; obtain ⟨s0, s1, s2, s3⟩ := keep4 st hRn hd22)
              | (go_at_call 47; refine (plus_b (-(q : Int)) (-1) (-(q : Int) + -1) b21 b22 o21 o22 k21 c21 k22 c22 _ Hb21.out Hb22.out (by rw [Int.natAbs_neg, Int.natAbs_natCast]; exact hM21.below (Nat.le_refl _) hd22) hR22 rfl (big64 _ (by omega))).mono ?_; rintro e w23 ⟨b23, o23, k23, c23, rfl, Hb23, hR23, hB23⟩; have hd23 := hd22.trans (hB23.mono hd22.size); obtain ⟨t0, t1, t2, t3⟩ := keep4 st hRn hd23))
            all_goals
              have hM23 := hR23.stored (b1 := b23) t0 t1 (.slice o23 k23 c23)
              have hbel23 := two_below (hbel21.trans (hd23.mono (by rw [st.2.2.2.2]; exact hS21.bel.size))) hQw (.bool b23) (.slice o23 k23 c23)
              go_wp2_with (go_at_call 51; refine (told_is (-(q : Int) + -1) b23 o23 k23 c23 _ Hb23 hM23 (big60 _ (by omega))).mono ?_; rintro e w24 ⟨rfl, hB24⟩)
              go_ret2
              exact ⟨ret_num hfin2.out.symm, hbel23.trans (hB24.mono hbel23.size)⟩
          · have hrl : ¬ 0 < rl := fun h => hr0 ((mg_pos hS.mr).2 h)
            have hfin2 : Hid (a.fdiv b = -(q : Int)) := by
              show _ = _
              rw [hfin.out, if_neg hr0]; omega
            go_wp2_with (first
              | (go_at_call 50; refine (minusN q qo ql qc _ hS.mq).mono ?_; rintro e w21 ⟨b21, o21, k21, c21, rfl, Hb21, hR21, hB21⟩; have hS21 := hS.below hB21; obtain ⟨q021, q121, qf021, qf121⟩ := hS21.bq; obtain ⟨r021, r121, rf021, rf121⟩ := hS21.br; have hM21 := hR21.stored (b1 := b21) q021 q121 (.slice o21 k21 c21); have hbel21 := two_below hS21.bel hQw (.bool b21) (.slice o21 k21 c21))
              | (go_at_call 51; refine (told_is (-(q : Int)) b21 o21 k21 c21 _ Hb21 (by rw [Int.natAbs_neg, Int.natAbs_natCast]; exact hM21) (big60 _ (by omega))).mono ?_; rintro e w24 ⟨rfl, hB24⟩))
            go_ret2
            exact ⟨ret_num hfin2.out.symm, hbel21.trans (hB24.mono hbel21.size)⟩
      · by_cases hbn : b < 0
        · skip
          have hfin : Hid (a.fdiv b = -(q : Int) - (if 0 < r then 1 else 0)) := by
            show a.fdiv b = _
            rw [floor_unlike a b hb (by omega), HE.out.1, HE.out.2, hM.out, hD.out]
          by_cases hr0 : 0 < r
          · have hrl := (mg_pos hS.mr).1 hr0
            have hfin2 : Hid (a.fdiv b = -(q : Int) + -1) := by
              show _ = _
              rw [hfin.out, if_pos hr0]; omega
            go_wp2_with (go_at_call 50; refine (minusN q qo ql qc _ hS.mq).mono ?_; rintro e w21 ⟨b21, o21, k21, c21, rfl, Hb21, hR21, hB21⟩; have hS21 := hS.below hB21; obtain ⟨q021, q121, qf021, qf121⟩ := hS21.bq; obtain ⟨r021, r121, rf021, rf121⟩ := hS21.br)
            have st := stored_cells (u := .bool b21) (v := .slice o21 k21 c21) q021 q121 qf021 qf121
            have hRn : w4.heap.size < w21.heap.size := Nat.lt_trans (Nat.lt_succ_self _) hS21.o4
            have hM21 := hR21.stored (b1 := b21) q021 q121 (.slice o21 k21 c21)
            have hbel21 := two_below hS21.bel hQw (.bool b21) (.slice o21 k21 c21)
            go_region_with (first
              | (go_at_call 46; refine (of_b (-1) _ (by omega) (by omega)).mono ?_; rintro e w22 ⟨b22, o22, k22, c22, rfl, Hb22, hR22, hB22⟩; have hd22 := drew_below hB22; obtain ⟨s0, s1, s2, s3⟩ := keep4 st hRn hd22)
              | (go_at_call 47; refine (plus_b (-(q : Int)) (-1) (-(q : Int) + -1) b21 b22 o21 o22 k21 c21 k22 c22 _ Hb21.out Hb22.out (by rw [Int.natAbs_neg, Int.natAbs_natCast]; exact hM21.below (Nat.le_refl _) hd22) hR22 rfl (big64 _ (by omega))).mono ?_; rintro e w23 ⟨b23, o23, k23, c23, rfl, Hb23, hR23, hB23⟩; have hd23 := hd22.trans (hB23.mono hd22.size); obtain ⟨t0, t1, t2, t3⟩ := keep4 st hRn hd23))
            all_goals
              have hM23 := hR23.stored (b1 := b23) t0 t1 (.slice o23 k23 c23)
              have hbel23 := two_below (hbel21.trans (hd23.mono (by rw [st.2.2.2.2]; exact hS21.bel.size))) hQw (.bool b23) (.slice o23 k23 c23)
              go_wp2_with (go_at_call 51; refine (told_is (-(q : Int) + -1) b23 o23 k23 c23 _ Hb23 hM23 (big60 _ (by omega))).mono ?_; rintro e w24 ⟨rfl, hB24⟩)
              go_ret2
              exact ⟨ret_num hfin2.out.symm, hbel23.trans (hB24.mono hbel23.size)⟩
          · have hrl : ¬ 0 < rl := fun h => hr0 ((mg_pos hS.mr).2 h)
            have hfin2 : Hid (a.fdiv b = -(q : Int)) := by
              show _ = _
              rw [hfin.out, if_neg hr0]; omega
            go_wp2_with (first
              | (go_at_call 50; refine (minusN q qo ql qc _ hS.mq).mono ?_; rintro e w21 ⟨b21, o21, k21, c21, rfl, Hb21, hR21, hB21⟩; have hS21 := hS.below hB21; obtain ⟨q021, q121, qf021, qf121⟩ := hS21.bq; obtain ⟨r021, r121, rf021, rf121⟩ := hS21.br; have hM21 := hR21.stored (b1 := b21) q021 q121 (.slice o21 k21 c21); have hbel21 := two_below hS21.bel hQw (.bool b21) (.slice o21 k21 c21))
              | (go_at_call 51; refine (told_is (-(q : Int)) b21 o21 k21 c21 _ Hb21 (by rw [Int.natAbs_neg, Int.natAbs_natCast]; exact hM21) (big60 _ (by omega))).mono ?_; rintro e w24 ⟨rfl, hB24⟩))
            go_ret2
            exact ⟨ret_num hfin2.out.symm, hbel21.trans (hB24.mono hbel21.size)⟩
        · skip
          have hfin : Hid ((q : Int) = a.fdiv b) := by
            show (q : Int) = _
            rw [← floor_like a b hb (by omega), HE.out.1, hM.out, hD.out]
          go_wp2_with (go_at_call 51; refine (told_nat q qo ql qc _ hS.mq (by omega)).mono ?_; rintro e w20 ⟨rfl, hB20⟩)
          go_ret2
          exact ⟨ret_num hfin.out, hS.bel.trans (hB20.mono hS.bel.size)⟩
    · rw [show ((i + 1 : Nat) : Int) - 1 = (i : Int) from by omega]
      have hrd := hr.out
      have hSd := hS.below ((Below.refl _ _).drew)
      obtain ⟨A', hA', nA', vA', lA'⟩ := hSd.mx
      have e1 : IntKind.i64.wrap ((i : Int) / 16) = ((i / 16 : Nat) : Int) := by rw [IntKind.wrap_i64]; omega
      have e2 : IntKind.u64.wrap ((i : Int).tmod 16) = ((i % 16 : Nat) : Int) := by rw [Int.tmod_eq_emod_of_nonneg (by omega), IntKind.wrap_u64]; omega
      obtain ⟨c, hc⟩ : ∃ c, c = dg A' (i / 16) / 2 ^ (i % 16) % 2 := ⟨_, rfl⟩
      have hc1 : c ≤ 1 := by omega
      have e3 := bit_form (dg A' (i / 16)) i (dg_lt hA'.small _)
      rw [← hc] at e3
      have E3 : Hid _ := e3
      have hcm : c = m / 2 ^ i % 2 := by rw [hc, bit_at hA'.small, vA']
      have hqs := quo_step hinv.out hrd hcm
      have hqb := quo_bound hinv.out hd0 hm0
      have HQ : Hid _ := hqs
      have HS : Hid (St w wr w2.heap.size (w2.heap.size + 1) w4.heap.size (w4.heap.size + 1) o1 o2 qo ro k1 c1 k2 c2 ql qc rl rc m d q r) := hS
      obtain ⟨x0, x1, xf0, xf1⟩ := hS.bx
      obtain ⟨r0, r1, rf0, rf1⟩ := hS.br
      clear e3 hcm hqs hc vA' hinv hS nA'
      go_upto_region 8 with fail
      go_cut [] (fun wx => ∃ (o7 : Option Addr) (k7 c7 : Nat), St w wx w2.heap.size (w2.heap.size + 1) w4.heap.size (w4.heap.size + 1) o1 o2 qo o7 k1 c1 k2 c2 ql qc k7 c7 m d q (r + r + c))
      case first =>
        go_region_with (first
          | (go_at_call 48; refine (digit_at false o1 k1 c1 A' (i / 16) _ (hA'.below (Nat.le_refl _) hB5) (by omega)).mono ?_; rintro e w' ⟨rfl, rfl⟩)
          | (go_at_call 46; rw [E3.out]; refine (ofN c _ (by omega)).mono ?_; rintro e w6 ⟨o6, k6, c6, rfl, hR6, hB6⟩; have hb56 := ((Below.refl w5.heap.size w5).alloc (Nat.le_refl _) _).trans (hB6.mono (by simp)); have hS6 := hS5.below hb56)
          | (go_at_call 47; have _t := hB6; refine (plusN (r + r) c o5 o6 k5 c5 k6 c6 _ (hR5.below (Nat.le_refl _) hb56) hR6 (by omega)).mono ?_; rintro e w7 ⟨o7, k7, c7, rfl, hR7, hB7⟩; have hS7 := hS6.below hB7; obtain ⟨r07, r17, rf07, rf17⟩ := hS7.br)
          | (go_at_call 47; refine (plusN r r ro ro rl rc rl rc _ hSd.mr hSd.mr (by omega)).mono ?_; rintro e w5 ⟨o5, k5, c5, rfl, hR5, hB5⟩; have hS5 := hSd.below hB5; obtain ⟨x05, x15, xf05, xf15⟩ := hS5.bx))
        all_goals (go_wp2_with fail; go_meet; exact ⟨o7, k7, c7, hS7.setR hR7⟩)
      case rest =>
        obtain ⟨o7, k7, c7, hS8⟩ := hcut
        clear hSd hA' e1 e2 E3 HS x0 x1 xf0 xf1 r0 r1 rf0 rf1 hr
        obtain ⟨q0, q1, qf0, qf1⟩ := hS8.bq
        obtain ⟨r0, r1, rf0, rf1⟩ := hS8.br
        obtain ⟨y0, y1, yf0, yf1⟩ := hS8.bY
        have ho2 := hS8.o2
        have ho3 : ¬ w2.heap.size + 1 = w4.heap.size := by omega
        by_cases hge : d ≤ r + r + c
        · have hnew := HQ.out.1 hge
          have HNEW : Hid _ := hnew
          clear hnew HQ
          go_wp2_with (first
            | (go_at_call 47; refine (plusN q q qo qo ql qc ql qc _ hS8.mq hS8.mq (by omega)).mono ?_; rintro e w9 ⟨o9, k9, c9, rfl, hR9, hB9⟩; have hS9 := hS8.below hB9; have hS10 := hS9.setQ hR9; obtain ⟨q09, q19, qf09, qf19⟩ := hS9.bq; obtain ⟨r09, r19, rf09, rf19⟩ := hS9.br; obtain ⟨y09, y19, yf09, yf19⟩ := hS9.bY)
            | (go_at_call 49; refine (sizeN (r + r + c) d o7 o2 k7 c7 k2 c2 _ hS10.mr hS10.my).mono ?_; rintro e w11 ⟨cc, rfl, hcc, hB11⟩; have hcc0 : 0 ≤ cc := hcc.out.2 hge; have hS11 := hS10.below hB11))
          clear hS8 hS9 hS10 hR9 hB9 hB11 q0 q1 qf0 qf1 r0 r1 rf0 rf1 y0 y1 yf0 yf1 q09 q19 qf09 qf19 r09 r19 rf09 rf19 y09 y19 yf09 yf19
          obtain ⟨r011, r111, rf011, rf111⟩ := hS11.br
          obtain ⟨y011, y111, yf011, yf111⟩ := hS11.bY
          have hS11d := hS11.below ((Below.refl _ _).drew)
          go_cut [] (fun wx => ∃ (o13 : Option Addr) (k13 c13 : Nat), St w wx w2.heap.size (w2.heap.size + 1) w4.heap.size (w4.heap.size + 1) o1 o2 o9 o13 k1 c1 k2 c2 k9 c9 k13 c13 m d (q + q) (r + r + c - d))
          case first =>
            go_region_with (first
              | (go_at_call 50; refine (minusN d o2 k2 c2 _ hS11d.my).mono ?_; rintro e w12 ⟨b12, o12, k12, c12, rfl, Hb12, hR12, hB12⟩; have hS12 := hS11d.below hB12; obtain ⟨r012, r112, rf012, rf112⟩ := hS12.br)
              | (go_at_call 47; refine (subN (r + r + c) d b12 o7 o12 k7 c7 k12 c12 _ hS12.mr hR12 Hb12 (by omega) (by omega)).mono ?_; rintro e w13 ⟨o13, k13, c13, rfl, hR13, hB13⟩; have hS13 := hS12.below hB13; obtain ⟨r013, r113, rf013, rf113⟩ := hS13.br))
            all_goals (go_wp2_with fail; go_meet; exact ⟨o13, k13, c13, hS13.setR hR13⟩)
          case rest =>
            obtain ⟨o13, k13, c13, hS14⟩ := hcut
            clear hS11 hS11d r011 r111 rf011 rf111 y011 y111 yf011 yf111
            obtain ⟨q014, q114, qf014, qf114⟩ := hS14.bq
            have hS14d := hS14.below ((Below.refl _ _).drew)
            go_wp2
            go_region_with (first
              | (go_at_call 46; refine (ofN 1 _ (by omega)).mono ?_; rintro e w15 ⟨o15, k15, c15, rfl, hR15, hB15⟩; have hS15 := hS14d.below hB15; obtain ⟨q015, q115, qf015, qf115⟩ := hS15.bq)
              | (go_at_call 47; refine (plusN (q + q) 1 o9 o15 k9 c9 k15 c15 _ hS15.mq hR15 (by omega)).mono ?_; rintro e w16 ⟨o16, k16, c16, rfl, hR16, hB16⟩; have hS16 := hS15.below hB16; obtain ⟨q016, q116, qf016, qf116⟩ := hS16.bq))
            all_goals
              have hS17 := hS16.setQ hR16
              clear hS14 hS14d q014 q114 qf014 qf114
              go_wp2
              go_roundg i
              case measure => omega
              case rel => exact ⟨q + q + 1, r + r + c - d, o16, o13, k16, c16, k13, c13, by omega, rfl, hS17, HNEW.out.1, HNEW.out.2⟩
        · have hnew := HQ.out.2 hge
          have HNEW : Hid _ := hnew
          clear hnew HQ
          go_wp2_with (first
            | (go_at_call 47; refine (plusN q q qo qo ql qc ql qc _ hS8.mq hS8.mq (by omega)).mono ?_; rintro e w9 ⟨o9, k9, c9, rfl, hR9, hB9⟩; have hS9 := hS8.below hB9; have hS10 := hS9.setQ hR9; obtain ⟨q09, q19, qf09, qf19⟩ := hS9.bq; obtain ⟨r09, r19, rf09, rf19⟩ := hS9.br; obtain ⟨y09, y19, yf09, yf19⟩ := hS9.bY)
            | (go_at_call 49; refine (sizeN (r + r + c) d o7 o2 k7 c7 k2 c2 _ hS10.mr hS10.my).mono ?_; rintro e w11 ⟨cc, rfl, hcc, hB11⟩; have hcc0 : ¬ 0 ≤ cc := fun h => hge (hcc.out.1 h); have hS11 := hS10.below hB11))
          go_roundg i
          case measure => omega
          case rel => exact ⟨q + q, r + r + c, o9, o7, k9, c9, k7, c7, by omega, rfl, hS11, HNEW.out.1, HNEW.out.2⟩
end Go.Proofs.Ytkanjgphmafjbaa.Wd
