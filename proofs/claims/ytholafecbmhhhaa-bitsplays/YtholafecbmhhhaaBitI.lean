/- The program's set: Join, Meet, Less. -/
import Derived.Test.YtholafecbmhhhaaBitH
namespace Go.Proofs.Ytholafecbmhhhaa.Dg
open Go.RowKit
set_option linter.unusedVariables false

/-- the first k cells mixed -/
def mixU (f : Nat → Nat → Nat) (C D : List Nat) : Nat → List Nat
  | 0 => C
  | k + 1 => (mixU f C D k).set k (f (C.getD k 0) (D.getD k 0))
theorem mixU_length (f : Nat → Nat → Nat) (C D : List Nat) (k : Nat) : (mixU f C D k).length = C.length := by
  induction k with
  | zero => rfl
  | succ k ih => rw [mixU, List.length_set, ih]
theorem mixU_ge (f : Nat → Nat → Nat) (C D : List Nat) (k a : Nat) (h : k ≤ a) : (mixU f C D k).getD a 0 = C.getD a 0 := by
  induction k with
  | zero => rfl
  | succ k ih => rw [mixU, getD_set_other _ _ _ _ _ (by omega), ih (by omega)]
theorem mixU_lt (f : Nat → Nat → Nat) (C D : List Nat) (k a : Nat) (h : a < k) (hk : k ≤ C.length) : (mixU f C D k).getD a 0 = f (C.getD a 0) (D.getD a 0) := by
  induction k with
  | zero => omega
  | succ k ih =>
    rw [mixU]
    by_cases e : k = a
    · subst e
      rw [getD_set_same _ _ _ _ (by rw [mixU_length]; omega)]
    · rw [getD_set_other _ _ _ _ _ e, ih (by omega) (by omega)]
theorem ownsU_cell {w : World} {base g n cap : Nat} {C : List Nat} (h : w.ownsRow base 77 1 (.slice (some ⟨g, 0, none⟩) n cap) n (cellsU C)) (p : Nat) (hp : p < n) : w.cell? ⟨g, p, none⟩ = some (.int .u64 ((C.getD p 0 : Nat) : Int)) := by
  have hl := h.1
  simp only [List.length_map, Nat.mul_one] at hl
  rw [h.cellAt p (by omega), List.getElem?_map, List.getElem?_eq_getElem (by omega)]
  simp [List.getD_eq_getElem?_getD, List.getElem?_eq_getElem (show p < C.length by omega)]
theorem grown_setN {w wr : World} {g j : Nat} {u : Value} (h : w.grownBy wr (some g)) : w.grownBy (wr.setCell ⟨g, j, none⟩ u) (some g) :=
  ⟨h.os, h.tape, h.output, by simp [World.setCell]; exact h.size, fun k hk hne => (Below.heap_setCell _ _ _ _ (fun e => hne (by rw [e]))).trans (h.block k hk hne)⟩
theorem grown_drewN (w : World) (g k : Nat) : w.grownBy (w.drewN k) (some g) :=
  ⟨(below_drewN 0 w k).os, (below_drewN 0 w k).tape, (below_drewN 0 w k).output, (below_drewN 0 w k).size, fun i _ _ => (below_drewN (i + 1) w k).block i (Nat.lt_succ_self i)⟩

set_option maxHeartbeats 2000000 in
theorem join_raw (p g p' g' n m : Nat) (C D : List Nat) (w : World) (h : Bs w p g n m C) (k : Bs w p' g' n m D) (hpg : p' ≠ g) :
    Calls Try.prog 16 #[at_p p, at_p p'] w fun e w' => e = .returned (.int .i64 0) ∧ w'.ownsRow 0 77 1 (.slice (some ⟨g, 0, none⟩) m m) m (cellsU (mixU (fun a b => a ||| b) C D m)) ∧ w.grownBy w' (some g) := by
  have hm64 : m ≤ 64 := by have := h.len; have := h.small; omega
  have hc := h.at_c
  have hd := k.at_c
  have hpne := h.ne
  have HX : Hid (Calls Try.prog 45 #[at_p p, at_p p'] w fun e w' => e = .returned (.int .i64 0) ∧ w.drewN 1 = w') := other_at p g n m p' g' n m C D 0 w h k (by rw [if_pos rfl])
  have HC0 : Hid ((w.drewN 1).ownsRow 0 77 1 (.slice (some ⟨g, 0, none⟩) m m) m (cellsU C)) := (h.below (Nat.le_refl _) (below_drewN _ _ _)).row
  have HD0 : Hid (∀ a, a < m → (w.drewN 1).cell? ⟨g', a, none⟩ = some (.int .u64 ((D.getD a 0 : Nat) : Int))) := fun a ha => (k.below (Nat.le_refl _) (below_drewN _ _ _)).cell a ha
  have HG0 : Hid (w.grownBy (w.drewN 1) (some g)) := grown_drewN w g 1
  have HN1 : Hid (some p ≠ some g) := by intro e; injection e with e; exact h.ne e
  have HN2 : Hid (some p' ≠ some g) := by intro e; injection e with e; exact hpg e
  have HCl : Hid (∀ q, C.getD q 0 < 18446744073709551616) := h.clt
  have HDl : Hid (∀ q, D.getD q 0 < 18446744073709551616) := k.clt
  have hd1 : (w.drewN 1).cell? ⟨p', 1, none⟩ = some (.slice (some ⟨g', 0, none⟩) m m) := (k.below (Nat.le_refl _) (below_drewN _ _ _)).at_c
  clear hpg hpne
  go_enter Try.func16, Try.ntmps16
  go_wp2_with (go_at_call 45; refine HX.out.mono ?_; rintro e w' ⟨rfl, rfl⟩)
  go_loopw [19] (fun i wr => ∃ j : Nat, j ≤ m ∧ i = .int .i64 j ∧ Hid (wr.ownsRow 0 77 1 (.slice (some ⟨g, 0, none⟩) m m) m (cellsU (mixU (fun a b => a ||| b) C D j))) ∧ Hid (∀ a, j ≤ a → a < m → wr.cell? ⟨g', a, none⟩ = some (.int .u64 ((D.getD a 0 : Nat) : Int))) ∧ Hid (w.grownBy wr (some g))) (fun i _ => m - (intOf i).toNat)
  case atStart => exact ⟨0, Nat.zero_le _, rfl, HC0.out, fun a _ ha => HD0.out a ha, HG0.out⟩
  case round =>
    obtain ⟨j, hj, rfl, hrow, hU, hG⟩ := hrel
    have hc' := grown_cell hG.out hc HN1.out
    by_cases hlt : j < m
    · have hcy := hU.out j (Nat.le_refl _) hlt
      have hbx := ownsU_cell hrow.out j hlt
      have hfz := hrow.out.frozenAt j
      rw [mixU_ge _ C D j j (Nat.le_refl _)] at hbx
      have HM : Hid (mixU (fun a b => a ||| b) C D (j + 1) = (mixU (fun a b => a ||| b) C D j).set j (C.getD j 0 ||| D.getD j 0)) := rfl
      have HS : Hid (∀ z : Nat, (wr.setCell ⟨g, j, none⟩ (.int .u64 (z : Int))).ownsRow 0 77 1 (.slice (some ⟨g, 0, none⟩) m m) m (cellsU ((mixU (fun a b => a ||| b) C D j).set j z))) := fun z => by
        rw [← cells_setU]; exact (hrow.out.stored j (.int .u64 (z : Int))).1
      have HU' : Hid (∀ (z : Nat) a, j + 1 ≤ a → a < m → (wr.setCell ⟨g, j, none⟩ (.int .u64 (z : Int))).cell? ⟨g', a, none⟩ = some (.int .u64 ((D.getD a 0 : Nat) : Int))) := fun z a h1 h2 => by
        rw [World.cell?_setCell_other]
        · exact hU.out a (by omega) h2
        · intro e
          simp only [Addr.mk.injEq] at e
          omega
      have HG' : Hid (∀ z : Nat, w.grownBy (wr.setCell ⟨g, j, none⟩ (.int .u64 (z : Int))) (some g)) := fun z => grown_setN hG.out
      have hor := u64_or_nat (C.getD j 0) (D.getD j 0) (HCl.out j) (HDl.out j)
      generalize C.getD j 0 = x at hbx HM hor
      generalize D.getD j 0 = y at hcy HM hor
      have HOR : Hid (bits .or .u64 (x : Int) (y : Int) = ((x ||| y : Nat) : Int)) := hor
      clear hor hU hG hrow hc hd HC0 HD0 HG0 hd1
      go_wp2
      go_roundw
      case rel =>
        rw [HOR.out]
        exact ⟨j + 1, by omega, by go_num, (by show World.ownsRow _ _ _ _ _ _ _; rw [HM.out]; exact HS.out _), (fun a h1 h2 => HU'.out _ a h1 h2), HG'.out _⟩
      case measure => simp [intOf]; omega
    · obtain rfl : j = m := by omega
      go_wp2
      go_ret
      exact ⟨rfl, hrow.out, hG.out⟩

set_option maxHeartbeats 2000000 in
theorem meet_raw (p g p' g' n m : Nat) (C D : List Nat) (w : World) (h : Bs w p g n m C) (k : Bs w p' g' n m D) (hpg : p' ≠ g) :
    Calls Try.prog 18 #[at_p p, at_p p'] w fun e w' => e = .returned (.int .i64 0) ∧ w'.ownsRow 0 77 1 (.slice (some ⟨g, 0, none⟩) m m) m (cellsU (mixU (fun a b => a &&& b) C D m)) ∧ w.grownBy w' (some g) := by
  have hm64 : m ≤ 64 := by have := h.len; have := h.small; omega
  have hc := h.at_c
  have hd := k.at_c
  have hpne := h.ne
  have HX : Hid (Calls Try.prog 45 #[at_p p, at_p p'] w fun e w' => e = .returned (.int .i64 0) ∧ w.drewN 1 = w') := other_at p g n m p' g' n m C D 0 w h k (by rw [if_pos rfl])
  have HC0 : Hid ((w.drewN 1).ownsRow 0 77 1 (.slice (some ⟨g, 0, none⟩) m m) m (cellsU C)) := (h.below (Nat.le_refl _) (below_drewN _ _ _)).row
  have HD0 : Hid (∀ a, a < m → (w.drewN 1).cell? ⟨g', a, none⟩ = some (.int .u64 ((D.getD a 0 : Nat) : Int))) := fun a ha => (k.below (Nat.le_refl _) (below_drewN _ _ _)).cell a ha
  have HG0 : Hid (w.grownBy (w.drewN 1) (some g)) := grown_drewN w g 1
  have HN1 : Hid (some p ≠ some g) := by intro e; injection e with e; exact h.ne e
  have HN2 : Hid (some p' ≠ some g) := by intro e; injection e with e; exact hpg e
  have HCl : Hid (∀ q, C.getD q 0 < 18446744073709551616) := h.clt
  have HDl : Hid (∀ q, D.getD q 0 < 18446744073709551616) := k.clt
  have hd1 : (w.drewN 1).cell? ⟨p', 1, none⟩ = some (.slice (some ⟨g', 0, none⟩) m m) := (k.below (Nat.le_refl _) (below_drewN _ _ _)).at_c
  clear hpg hpne
  go_enter Try.func18, Try.ntmps18
  go_wp2_with (go_at_call 45; refine HX.out.mono ?_; rintro e w' ⟨rfl, rfl⟩)
  go_loopw [19] (fun i wr => ∃ j : Nat, j ≤ m ∧ i = .int .i64 j ∧ Hid (wr.ownsRow 0 77 1 (.slice (some ⟨g, 0, none⟩) m m) m (cellsU (mixU (fun a b => a &&& b) C D j))) ∧ Hid (∀ a, j ≤ a → a < m → wr.cell? ⟨g', a, none⟩ = some (.int .u64 ((D.getD a 0 : Nat) : Int))) ∧ Hid (w.grownBy wr (some g))) (fun i _ => m - (intOf i).toNat)
  case atStart => exact ⟨0, Nat.zero_le _, rfl, HC0.out, fun a _ ha => HD0.out a ha, HG0.out⟩
  case round =>
    obtain ⟨j, hj, rfl, hrow, hU, hG⟩ := hrel
    have hc' := grown_cell hG.out hc HN1.out
    by_cases hlt : j < m
    · have hcy := hU.out j (Nat.le_refl _) hlt
      have hbx := ownsU_cell hrow.out j hlt
      have hfz := hrow.out.frozenAt j
      rw [mixU_ge _ C D j j (Nat.le_refl _)] at hbx
      have HM : Hid (mixU (fun a b => a &&& b) C D (j + 1) = (mixU (fun a b => a &&& b) C D j).set j (C.getD j 0 &&& D.getD j 0)) := rfl
      have HS : Hid (∀ z : Nat, (wr.setCell ⟨g, j, none⟩ (.int .u64 (z : Int))).ownsRow 0 77 1 (.slice (some ⟨g, 0, none⟩) m m) m (cellsU ((mixU (fun a b => a &&& b) C D j).set j z))) := fun z => by
        rw [← cells_setU]; exact (hrow.out.stored j (.int .u64 (z : Int))).1
      have HU' : Hid (∀ (z : Nat) a, j + 1 ≤ a → a < m → (wr.setCell ⟨g, j, none⟩ (.int .u64 (z : Int))).cell? ⟨g', a, none⟩ = some (.int .u64 ((D.getD a 0 : Nat) : Int))) := fun z a h1 h2 => by
        rw [World.cell?_setCell_other]
        · exact hU.out a (by omega) h2
        · intro e
          simp only [Addr.mk.injEq] at e
          omega
      have HG' : Hid (∀ z : Nat, w.grownBy (wr.setCell ⟨g, j, none⟩ (.int .u64 (z : Int))) (some g)) := fun z => grown_setN hG.out
      have hor := u64_and_nat (C.getD j 0) (D.getD j 0) (HCl.out j) (HDl.out j)
      generalize C.getD j 0 = x at hbx HM hor
      generalize D.getD j 0 = y at hcy HM hor
      have HOR : Hid (bits .and .u64 (x : Int) (y : Int) = ((x &&& y : Nat) : Int)) := hor
      clear hor hU hG hrow hc hd HC0 HD0 HG0 hd1
      go_wp2
      go_roundw
      case rel =>
        rw [HOR.out]
        exact ⟨j + 1, by omega, by go_num, (by show World.ownsRow _ _ _ _ _ _ _; rw [HM.out]; exact HS.out _), (fun a h1 h2 => HU'.out _ a h1 h2), HG'.out _⟩
      case measure => simp [intOf]; omega
    · obtain rfl : j = m := by omega
      go_wp2
      go_ret
      exact ⟨rfl, hrow.out, hG.out⟩

set_option maxHeartbeats 2000000 in
theorem less_raw (p g p' g' n m : Nat) (C D : List Nat) (w : World) (h : Bs w p g n m C) (k : Bs w p' g' n m D) (hpg : p' ≠ g) :
    Calls Try.prog 19 #[at_p p, at_p p'] w fun e w' => e = .returned (.int .i64 0) ∧ w'.ownsRow 0 77 1 (.slice (some ⟨g, 0, none⟩) m m) m (cellsU (mixU (fun a b => a &&& (18446744073709551615 - b)) C D m)) ∧ w.grownBy w' (some g) := by
  have hm64 : m ≤ 64 := by have := h.len; have := h.small; omega
  have hc := h.at_c
  have hd := k.at_c
  have hpne := h.ne
  have HX : Hid (Calls Try.prog 45 #[at_p p, at_p p'] w fun e w' => e = .returned (.int .i64 0) ∧ w.drewN 1 = w') := other_at p g n m p' g' n m C D 0 w h k (by rw [if_pos rfl])
  have HC0 : Hid ((w.drewN 1).ownsRow 0 77 1 (.slice (some ⟨g, 0, none⟩) m m) m (cellsU C)) := (h.below (Nat.le_refl _) (below_drewN _ _ _)).row
  have HD0 : Hid (∀ a, a < m → (w.drewN 1).cell? ⟨g', a, none⟩ = some (.int .u64 ((D.getD a 0 : Nat) : Int))) := fun a ha => (k.below (Nat.le_refl _) (below_drewN _ _ _)).cell a ha
  have HG0 : Hid (w.grownBy (w.drewN 1) (some g)) := grown_drewN w g 1
  have HN1 : Hid (some p ≠ some g) := by intro e; injection e with e; exact h.ne e
  have HN2 : Hid (some p' ≠ some g) := by intro e; injection e with e; exact hpg e
  have HCl : Hid (∀ q, C.getD q 0 < 18446744073709551616) := h.clt
  have HDl : Hid (∀ q, D.getD q 0 < 18446744073709551616) := k.clt
  have hd1 : (w.drewN 1).cell? ⟨p', 1, none⟩ = some (.slice (some ⟨g', 0, none⟩) m m) := (k.below (Nat.le_refl _) (below_drewN _ _ _)).at_c
  clear hpg hpne
  go_enter Try.func19, Try.ntmps19
  go_wp2_with (go_at_call 45; refine HX.out.mono ?_; rintro e w' ⟨rfl, rfl⟩)
  go_loopw [19] (fun i wr => ∃ j : Nat, j ≤ m ∧ i = .int .i64 j ∧ Hid (wr.ownsRow 0 77 1 (.slice (some ⟨g, 0, none⟩) m m) m (cellsU (mixU (fun a b => a &&& (18446744073709551615 - b)) C D j))) ∧ Hid (∀ a, j ≤ a → a < m → wr.cell? ⟨g', a, none⟩ = some (.int .u64 ((D.getD a 0 : Nat) : Int))) ∧ Hid (w.grownBy wr (some g))) (fun i _ => m - (intOf i).toNat)
  case atStart => exact ⟨0, Nat.zero_le _, rfl, HC0.out, fun a _ ha => HD0.out a ha, HG0.out⟩
  case round =>
    obtain ⟨j, hj, rfl, hrow, hU, hG⟩ := hrel
    have hc' := grown_cell hG.out hc HN1.out
    by_cases hlt : j < m
    · have hcy := hU.out j (Nat.le_refl _) hlt
      have hbx := ownsU_cell hrow.out j hlt
      have hfz := hrow.out.frozenAt j
      rw [mixU_ge _ C D j j (Nat.le_refl _)] at hbx
      have HM : Hid (mixU (fun a b => a &&& (18446744073709551615 - b)) C D (j + 1) = (mixU (fun a b => a &&& (18446744073709551615 - b)) C D j).set j (C.getD j 0 &&& (18446744073709551615 - D.getD j 0))) := rfl
      have HS : Hid (∀ z : Nat, (wr.setCell ⟨g, j, none⟩ (.int .u64 (z : Int))).ownsRow 0 77 1 (.slice (some ⟨g, 0, none⟩) m m) m (cellsU ((mixU (fun a b => a &&& (18446744073709551615 - b)) C D j).set j z))) := fun z => by
        rw [← cells_setU]; exact (hrow.out.stored j (.int .u64 (z : Int))).1
      have HU' : Hid (∀ (z : Nat) a, j + 1 ≤ a → a < m → (wr.setCell ⟨g, j, none⟩ (.int .u64 (z : Int))).cell? ⟨g', a, none⟩ = some (.int .u64 ((D.getD a 0 : Nat) : Int))) := fun z a h1 h2 => by
        rw [World.cell?_setCell_other]
        · exact hU.out a (by omega) h2
        · intro e
          simp only [Addr.mk.injEq] at e
          omega
      have HG' : Hid (∀ z : Nat, w.grownBy (wr.setCell ⟨g, j, none⟩ (.int .u64 (z : Int))) (some g)) := fun z => grown_setN hG.out
      have hor := u64_andNot_nat (C.getD j 0) (D.getD j 0) (HCl.out j) (HDl.out j)
      generalize C.getD j 0 = x at hbx HM hor
      generalize D.getD j 0 = y at hcy HM hor
      have HOR : Hid (bits .andNot .u64 (x : Int) (y : Int) = ((x &&& (18446744073709551615 - y) : Nat) : Int)) := hor
      clear hor hU hG hrow hc hd HC0 HD0 HG0 hd1
      go_wp2
      go_roundw
      case rel =>
        rw [HOR.out]
        exact ⟨j + 1, by omega, by go_num, (by show World.ownsRow _ _ _ _ _ _ _; rw [HM.out]; exact HS.out _), (fun a h1 h2 => HU'.out _ a h1 h2), HG'.out _⟩
      case measure => simp [intOf]; omega
    · obtain rfl : j = m := by omega
      go_wp2
      go_ret
      exact ⟨rfl, hrow.out, hG.out⟩
end Go.Proofs.Ytholafecbmhhhaa.Dg
