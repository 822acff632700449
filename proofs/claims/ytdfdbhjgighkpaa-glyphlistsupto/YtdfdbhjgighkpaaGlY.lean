/- The walk of GlyphLists. -/
import Derived.Test.YtdfdbhjgighkpaaGlX
namespace Go.Proofs.Ytdfdbhjgighkpaa.Gl
open Go.RowKit
set_option linter.unusedVariables false

theorem apart_own {W : World} {B n : Nat} {v u : Value} {xs : List Value} (hl : ∀ k, v.ownBlock = some k → k < B) (hu : W.ownsRow B 9 1 u n xs) : u.ownBlock = none ∨ u.ownBlock ≠ v.ownBlock := by
  cases hq : u.ownBlock with
  | none => exact .inl rfl
  | some k =>
    refine .inr (fun e => ?_)
    have h1 := (hu.lt k hq).1
    have h2 := hl k e.symm
    omega
theorem apart_new {W : World} {o : Obj} {B g1 n : Nat} {v u : Value} {xs : List Value} (hl : ∀ k, v.ownBlock = some k → k < B) (hu : W.ownsRow B 9 1 u n xs) (h : v.ownBlock = some g1 ∨ (W.alloc o).heap.size ≤ g1) : some g1 ≠ u.ownBlock := by
  intro e
  have h1 := hu.lt g1 e.symm
  rcases h with h | h
  · have := hl g1 h; omega
  · rw [World.size_alloc] at h; omega
theorem far_cell {x1 x2 : World} {o : Obj} {g1 k : Nat} {y : Value} {row : Option Nat} (hg : g1 < x1.heap.size) (h : x1.cell? ⟨g1, k, none⟩ = some y) (hgy : (x1.alloc o).grownBy x2 row) (hne : some g1 ≠ row) : x2.cell? ⟨g1, k, none⟩ = some y :=
  hgy.cell (a := ⟨g1, k, none⟩) ((World.cell?_of_block (Below.heap_alloc _ _ _ hg)).trans h) hne
theorem num1 {n m : Nat} (h : n + m ≤ 1048576) : (n + 2) * 16 ≤ 140737488355328 := by omega
theorem num3 {k : Nat} (h : k ≤ 1048576) : (k + 2) * 16 ≤ 140737488355328 := by omega
theorem num2 {n m : Nat} (h : n + m ≤ 1048576) : (n + m + 2) * 16 ≤ 140737488355328 := by omega
set_option maxRecDepth 100000 in
set_option maxHeartbeats 8000000 in
theorem lists_walk (ao bo : Option Addr) (n c m c' : Nat) (A B : List ByteArray) (s : ByteArray) (w : World) (hA : RdS w ao n c A) (hB : RdS w bo m c' B) (sA : Short A) (sB : Short B) (hn : n + m ≤ 1048576) :
    Calls Try.prog 6 #[.slice ao n c, .slice bo m c', .string s] w fun e w' => e = .returned (.bool true) ∧ Below w.heap.size w w' := by
  have hn1 := num1 hn
  have hn2 := num2 hn
  obtain ⟨rl, el, hrl⟩ := sorted_is A
  obtain ⟨ru, eu, hru⟩ := union_is A B
  obtain ⟨b1, hb1⟩ := bool_for (Rise A)
  obtain ⟨z, hz⟩ : ∃ z, idx s A 0 = z := ⟨_, rfl⟩
  have hll := hrl.le
  have hul := hru.le
  rw [hA.eqlen] at hll hul
  rw [hB.eqlen] at hul
  have S1 : Hid (∀ ao c w, RdS w ao n c A → Calls Try.prog 26 #[.slice ao n c] w fun e w' => ∃ v, e = .returned (.tuple #[v, .int .i64 el]) ∧ w'.ownsRow w.heap.size 9 1 v rl.length (cellsS rl) ∧ Below w.heap.size w w') := fun ao c w h => psorted_at ao n c A rl el w h sA hrl hn1
  have S2 : Hid (∀ ao c w, RdS w ao n c A → Calls Try.prog 27 #[.slice ao n c] w fun e w' => ∃ v, e = .returned (.tuple #[v, .int .i64 el]) ∧ w'.ownsRow w.heap.size 9 1 v rl.length (cellsS rl) ∧ Below w.heap.size w w') := fun ao c w h => rsorted_at ao n c A rl el w h sA hrl hn1
  have U1 : Hid (∀ ao bo c c' w, RdS w ao n c A → RdS w bo m c' B → Calls Try.prog 28 #[.slice ao n c, .slice bo m c'] w fun e w' => ∃ v, e = .returned (.tuple #[v, .int .i64 eu]) ∧ w'.ownsRow w.heap.size 9 1 v ru.length (cellsS ru) ∧ Below w.heap.size w w') := fun ao bo c c' w h k => punion_at ao bo n c m c' A B ru eu w h k sA sB hru hn2
  have U2 : Hid (∀ ao bo c c' w, RdS w ao n c A → RdS w bo m c' B → Calls Try.prog 29 #[.slice ao n c, .slice bo m c'] w fun e w' => ∃ v, e = .returned (.tuple #[v, .int .i64 eu]) ∧ w'.ownsRow w.heap.size 9 1 v ru.length (cellsS ru) ∧ Below w.heap.size w w') := fun ao bo c c' w h k => runion_at ao bo n c m c' A B ru eu w h k sA sB hru hn2
  have R1 : Hid (∀ ao c w, RdS w ao n c A → Calls Try.prog 31 #[.slice ao n c] w fun e w' => e = .returned (.bool b1) ∧ Below w.heap.size w w') := fun ao c w h => rises_at ao n c A b1 w h sA hb1
  have R2 : Hid (∀ ao c w, RdS w ao n c A → Calls Try.prog 32 #[.slice ao n c] w fun e w' => e = .returned (.bool b1) ∧ Below w.heap.size w w') := fun ao c w h => rrises_at ao n c A b1 w h sA hb1
  have I1 : Hid (∀ ao c w, RdS w ao n c A → Calls Try.prog 33 #[.slice ao n c, .string s] w fun e w' => e = .returned (.int .i64 z) ∧ Below w.heap.size w w') := fun ao c w h => by rw [← hz]; exact index_at ao n c A s w h
  have I2 : Hid (∀ ao c w, RdS w ao n c A → Calls Try.prog 34 #[.slice ao n c, .string s] w fun e w' => e = .returned (.int .i64 z) ∧ w = w') := fun ao c w h => by rw [← hz]; exact rindex_at ao n c A s w h
  have SM : Hid (∀ ao ao' n c m c' (T : List ByteArray) w, RdS w ao n c T → RdS w ao' m c' T → Calls Try.prog 30 #[.slice ao n c, .slice ao' m c'] w fun e w' => e = .returned (.bool true) ∧ Below w.heap.size w w') := fun ao ao' n c m c' T w h k => same_at ao ao' n c m c' T T true w h k ⟨fun _ => rfl, fun _ => rfl⟩
  clear sA sB hrl hru hb1 hz hn1 hn2
  have hbB : (b1 != b1) = false := by simp
  have hee : ((el : Int) != (el : Int)) = false := by simp
  have heu : ((eu : Int) != (eu : Int)) = false := by simp
  have hzz : (z != z) = false := by simp
  obtain ⟨nl, hnl⟩ : ∃ nl, rl.length = nl := ⟨_, rfl⟩
  obtain ⟨nu, hnu⟩ : ∃ nu, ru.length = nu := ⟨_, rfl⟩
  rw [hnl] at S1 S2 hll
  rw [hnu] at U1 U2 hul
  clear hnl hnu
  go_enter Try.func6, Try.ntmps6
  go_wp2_with (first
    | (at_builtin; refine wp_copyS w rfl (.tmp 21) (.tmp 22) rfl rfl ao n c A rfl hA (by omega) ?_; intro v1 w1 hO1 hB1; obtain ⟨a1, c1, rfl, hR1⟩ := rds_of_owns hO1)
    | (at_builtin; refine wp_copyS w1 rfl (.tmp 24) (.tmp 25) rfl rfl bo m c' B rfl (hB.below (Nat.le_refl _) hB1) (by omega) ?_; intro v2 w2 hO2 hB2; obtain ⟨a2, c2, rfl, hR2⟩ := rds_of_owns hO2; have hBw2 := bt2 hB1 hB2; have hR1' := hR1.below (Nat.le_refl _) hB2)
    | (go_at_call 26; refine (S1.out _ _ _ hR1').mono ?_; rintro e w3 ⟨v3, rfl, hO3, hB3⟩; obtain ⟨a3, c3, rfl, hR3⟩ := rds_of_owns hO3; have hBw3 := bt2 hBw2 hB3)
    | (go_at_call 27; refine (S2.out _ _ _ (hA.below (Nat.le_refl _) hBw3)).mono ?_; rintro e w4 ⟨v4, rfl, hO4, hB4⟩; obtain ⟨a4, c4, rfl, hR4⟩ := rds_of_owns hO4; have hBw4 := bt2 hBw3 hB4; have hB24 := bt2 hB3 hB4)
    | (go_at_call 28; refine (U1.out _ _ _ _ _ (hR1'.below (Nat.le_refl _) hB24) (hR2.below (Nat.le_refl _) hB24)).mono ?_; rintro e w5 ⟨v5, rfl, hO5, hB5⟩; obtain ⟨a5, c5, rfl, hR5⟩ := rds_of_owns hO5; have hBw5 := bt2 hBw4 hB5; have hB25 := bt2 hB24 hB5; have hB35 := bt2 hB4 hB5)
    | (go_at_call 29; refine (U2.out _ _ _ _ _ (hA.below (Nat.le_refl _) hBw5) (hB.below (Nat.le_refl _) hBw5)).mono ?_; rintro e w6 ⟨v6, rfl, hO6, hB6⟩; obtain ⟨a6, c6, rfl, hR6⟩ := rds_of_owns hO6; have hBw6 := bt2 hBw5 hB6; have hB26 := bt2 hB25 hB6; have hB36 := bt2 hB35 hB6; have hB46 := bt2 hB5 hB6)
    | (go_at_call 9; refine (fixed_at _).mono ?_; rintro e w7 ⟨rfl, hB7⟩; have hB37 := bt2 hB36 hB7; have hB47 := bt2 hB46 hB7)
    | (have _t := q1; go_at_call 30; refine (SM.out _ _ _ _ _ _ ru _ (hR5.below (Nat.le_refl _) (bt2 (bt2 hB6 hB7) hB8)) (hR6.below (Nat.le_refl _) (bt2 hB7 hB8))).mono ?_; rintro e w9 ⟨rfl, hB9⟩; have hBw9 := bt2 (bt2 (bt2 hBw6 hB7) hB8) hB9; have hB29 := bt2 (bt2 (bt2 hB26 hB7) hB8) hB9)
    | (go_at_call 30; refine (SM.out _ _ _ _ _ _ rl _ (hR3.below (Nat.le_refl _) hB37) (hR4.below (Nat.le_refl _) hB47)).mono ?_; rintro e w8 ⟨rfl, hB8⟩; have q1 : Hid True := trivial)
    | (go_at_call 31; refine (R1.out _ _ _ (hR1'.below (Nat.le_refl _) hB29)).mono ?_; rintro e w10 ⟨rfl, hB10⟩; have hBw10 := bt2 hBw9 hB10)
    | (go_at_call 32; refine (R2.out _ _ _ (hA.below (Nat.le_refl _) hBw10)).mono ?_; rintro e w11 ⟨rfl, hB11⟩; have hBw11 := bt2 hBw10 hB11; have hB211 := bt2 (bt2 hB29 hB10) hB11)
    | (go_at_call 33; refine (I1.out _ _ _ (hR1'.below (Nat.le_refl _) hB211)).mono ?_; rintro e w12 ⟨rfl, hB12⟩; have hBw12 := bt2 hBw11 hB12; have hB212 := bt2 hB211 hB12)
    | (go_at_call 34; refine (I2.out _ _ _ (hA.below (Nat.le_refl _) hBw12)).mono ?_; rintro e w13 ⟨rfl, rfl⟩))
  have hB712 := bt2 (bt2 (bt2 (bt2 (bt2 hB7 hB8) hB9) hB10) hB11) hB12
  have hP3 := owns_below hO3 (bt2 hB36 hB712)
  have hP5 := owns_below hO5 (bt2 hB6 hB712)
  have hl3 : ∀ k, (Value.slice a3 nl c3).ownBlock = some k → k < w4.heap.size := fun k hk => Nat.lt_of_lt_of_le (hO3.lt k hk).2 hB4.size
  have h24 : w2.heap.size ≤ w4.heap.size := hB24.size
  have hW4 : w4.heap.size ≤ w12.heap.size := (bt2 hB46 hB712).size
  clear hB712 hO1 hO2 hO3 hO4 hO5 hO6 hR1 hR3 hR4 hR5 hR6 hB1 hB2 hB3 hB4 hB5 hB6 hB7 hB8 hB9 hB10 hB11 hB12 hBw3 hBw4 hBw5 hBw6 hBw9 hBw10 hBw11 hB24 hB25 hB26 hB29 hB35 hB36 hB37 hB46 hB47 hB211 _t q1 S1 S2 U1 U2 R1 R2 I1 I2 hbB hee heu hzz
  go_loopw [91] (fun i wr => ∃ (k : Nat) (xs : List Value), k ≤ nl ∧ i = .int .i64 k ∧ wr.ownsRow w2.heap.size 9 1 (.slice a3 nl c3) nl xs ∧ wr.ownsRow w4.heap.size 9 1 (.slice a5 nu c5) nu (cellsS ru) ∧ Below w2.heap.size w2 wr ∧ w4.heap.size ≤ wr.heap.size) (fun i _ => nl - (intOf i).toNat)
  case atStart => exact ⟨0, _, Nat.zero_le _, rfl, hP3, hP5, hB212, hW4⟩
  case round =>
    obtain ⟨k, xs, hk, rfl, hO, hOu, hBr, hW⟩ := hrel
    by_cases hlt : k < nl
    · rcases hO.2 with ⟨_, h0⟩ | ⟨g, cap, cur, e, hbg, hgg, hnc, hcm, _⟩
      · omega
      · obtain ⟨rfl, _, rfl⟩ := Value.slice.inj e
        have hcell : wr.cell? ⟨g, k, none⟩ = some (xs[k]'(by have := hO.1; omega)) := by rw [hO.cellAt k (by omega), List.getElem?_eq_getElem]
        have hfr : wr.frozen? ⟨g, k, none⟩ = false := hO.frozenAt k
        have hg4 : g < w4.heap.size := hl3 g rfl
        have hst := hO.stored k (.string ⟨#[108]⟩)
        have HST : Hid _ := hst
        generalize xs[k]'(by have := hO.1; omega) = x at hcell
        have hcx : c3 ≤ 9223372036854775807 := hcm
        clear hst e hgg hnc hcm
        go_wp2
        go_roundw
        case rel => exact ⟨k + 1, _, by omega, by go_num, HST.out.1, hOu.kept HST.out.2 (.inr (fun e => by have := (hOu.lt g e).1; omega)), hBr.setCell hbg _, by simpa using hW⟩
        case measure => simp [intOf]; omega
    · obtain rfl : k = nl := by omega
      clear hP3 hP5
      go_wp2
      obtain ⟨wv, hwv⟩ : ∃ wv, wv = wr := ⟨_, rfl⟩
      subst hwv
      go_loopw [100] (fun i wr => ∃ (q : Nat) (ys : List Value), q ≤ nu ∧ i = .int .i64 q ∧ wr.ownsRow w2.heap.size 9 1 (.slice a3 k c3) k xs ∧ wr.ownsRow w4.heap.size 9 1 (.slice a5 nu c5) nu ys ∧ Below w2.heap.size w2 wr ∧ w4.heap.size ≤ wr.heap.size) (fun i _ => nu - (intOf i).toNat)
      case atStart => exact ⟨0, _, Nat.zero_le _, rfl, hO, hOu, hBr, hW⟩
      case round =>
        clear hO hOu hBr hW
        obtain ⟨q, ys, hq, rfl, hO, hOu, hBr, hW⟩ := hrel
        by_cases hlt2 : q < nu
        · rcases hOu.2 with ⟨_, h0⟩ | ⟨g, cap, cur, e, hbg, hgg, hnc, hcm, _⟩
          · omega
          · obtain ⟨rfl, _, rfl⟩ := Value.slice.inj e
            have hcell : wr.cell? ⟨g, q, none⟩ = some (ys[q]'(by have := hOu.1; omega)) := by rw [hOu.cellAt q (by omega), List.getElem?_eq_getElem]
            have hfr : wr.frozen? ⟨g, q, none⟩ = false := hOu.frozenAt q
            have hst := hOu.stored q (.string ⟨#[117]⟩)
            have HST : Hid _ := hst
            generalize ys[q]'(by have := hOu.1; omega) = x at hcell
            have hcx : c5 ≤ 9223372036854775807 := hcm
            clear hst e hgg hnc hcm
            go_wp2
            go_roundw
            case rel => exact ⟨q + 1, _, by omega, by go_num, hO.kept HST.out.2 (.inr (fun e => by have := hl3 g e; omega)), HST.out.1, hBr.setCell (Nat.le_trans h24 hbg) _, by simpa using hW⟩
            case measure => simp [intOf]; omega
        · obtain rfl : q = nu := by omega
          have hk3 := num3 (k := k) (by omega)
          have hq3 := num3 (k := q) (by omega)
          go_wp2_with (first
            | (at_builtin; refine wp_push2 w2 _ w2.heap.size w2.heap.size rfl (.tmp 107) (.tmp 108) rfl a3 k c3 xs ⟨#[120]⟩ wr.heap.size rfl rfl (hO.alloc _) (by simp) (by simp) hk3 (size_new1 hBr.size _) (hBr.alloc hBr.size _) (Nat.le_refl _) ?_; intro g1 d1 x1 l1 l3 l4 hOx hgx hgx2 hgx3 hBx; have hOu1 := (hOu.alloc (.cells #[.string ⟨#[120]⟩, .string ⟨#[120]⟩] 9)).kept hgx (apart_own hl3 hOu))
            | (at_builtin; refine wp_push2 w2 _ w2.heap.size w4.heap.size rfl (.tmp 110) (.tmp 111) rfl a5 q c5 ys ⟨#[121]⟩ x1.heap.size rfl rfl (hOu1.alloc _) (by simp) (by simp) hq3 (size_new1 (Nat.le_trans (size_new1 hW _) hgx.size) _) (hBx.alloc hBx.size _) h24 ?_; intro g2 d2 x2 m1 m3 m4 hOy hgy hgy2 hgy3 hBy; have hx2 := far_cell hgx3 l1 hgy (apart_new hl3 hOu hgx2))
            | (have _t := q1; go_at_call 30; refine (SM.out _ _ _ _ _ _ B _ (hR2.below (Nat.le_refl _) (bt2 hBy hB14)) (hB.below (Nat.le_refl _) (bt2 (bt2 hBw2 hBy) hB14))).mono ?_; rintro e w15 ⟨rfl, hB15⟩; have hx3 := (hB15.cell (World.block_lt_of_cell? _ _ hx2')).trans hx2'; have m1'' := (hB15.cell (World.block_lt_of_cell? _ _ m1')).trans m1')
            | (go_at_call 30; refine (SM.out _ _ _ _ _ _ A _ (hR1'.below (Nat.le_refl _) hBy) (hA.below (Nat.le_refl _) (bt2 hBw2 hBy))).mono ?_; rintro e w14 ⟨rfl, hB14⟩; have hx2' := (hB14.cell (World.block_lt_of_cell? _ _ hx2)).trans hx2; have m1' := (hB14.cell (World.block_lt_of_cell? _ _ m1)).trans m1; have q1 : Hid True := trivial))
          go_ret
          exact ⟨rfl, bt2 (bt2 (bt2 hBw2 hBy) hB14) hB15⟩
end Go.Proofs.Ytdfdbhjgighkpaa.Gl
