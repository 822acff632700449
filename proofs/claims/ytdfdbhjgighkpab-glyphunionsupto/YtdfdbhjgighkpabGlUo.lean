/- The walk of GlyphUnions, of lists that rise. -/
import Derived.Test.YtdfdbhjgighkpabGlUn
namespace Go.Proofs.Ytdfdbhjgighkpab.Gl
open Go.RowKit
set_option linter.unusedVariables false

abbrev IndexAt (n : Nat) (A : List ByteArray) : Prop := ∀ ao c s w, RdS w ao n c A → Calls Try.prog 8 #[.slice ao n c, .string s] w fun e w' => ∃ z : Int, e = .returned (.int .i64 z) ∧ -1 ≤ z ∧ Hid (0 ≤ z ↔ s ∈ A) ∧ Below w.heap.size w w'
theorem index_is (n : Nat) (A : List ByteArray) : IndexAt n A := fun ao c s w h => (index_at ao n c A s w h).mono fun e w' ⟨he, hb⟩ => ⟨_, he, idx_ge s A 0 (by omega), idx_in s A 0 (by omega), hb⟩
abbrev IndexYes (n : Nat) (A : List ByteArray) (s : ByteArray) : Prop := ∀ ao c w, RdS w ao n c A → Calls Try.prog 8 #[.slice ao n c, .string s] w fun e w' => ∃ z : Nat, e = .returned (.int .i64 z) ∧ Below w.heap.size w w'
abbrev IndexNo (n : Nat) (A : List ByteArray) (s : ByteArray) : Prop := ∀ ao c w, RdS w ao n c A → Calls Try.prog 8 #[.slice ao n c, .string s] w fun e w' => e = .returned (.int .i64 (-1)) ∧ Below w.heap.size w w'
theorem index_yes {n : Nat} {A : List ByteArray} {s : ByteArray} (h : s ∈ A) : IndexYes n A s := fun ao c w hr => (index_at ao n c A s w hr).mono fun e w' ⟨he, hb⟩ => by
  have h0 := (idx_in s A 0 (by omega)).2 h
  obtain ⟨z, hz⟩ := Int.eq_ofNat_of_zero_le h0
  exact ⟨z, by rw [he, hz], hb⟩
theorem index_no {n : Nat} {A : List ByteArray} {s : ByteArray} (h : ¬ s ∈ A) : IndexNo n A s := fun ao c w hr => (index_at ao n c A s w hr).mono fun e w' ⟨he, hb⟩ => by
  have h0 := idx_ge s A 0 (by omega)
  have h1 : ¬ 0 ≤ idx s A 0 := fun e => h ((idx_in s A 0 (by omega)).1 e)
  exact ⟨by rw [he]; exact ret1 (by omega), hb⟩
set_option maxRecDepth 100000 in
set_option maxHeartbeats 8000000 in
theorem unions_yes (ao bo : Option Addr) (n c m c' : Nat) (A B : List ByteArray) (w : World) (hA : RdS w ao n c A) (hB : RdS w bo m c' B) (sA : Short A) (sB : Short B) (hn : n + m ≤ 1048576) (hyes : Rise A ∧ Rise B) :
    Calls Try.prog 3 #[.slice ao n c, .slice bo m c'] w fun e w' => e = .returned (.bool true) ∧ Below w.heap.size w w' := by
  have hu : UnionIs A B (togL (A ++ B)) 0 := .inr ⟨hyes, rfl, rfl⟩
  have hul := hu.le
  rw [hA.eqlen, hB.eqlen] at hul
  have hru := rise_union hyes
  have HM : Hid (∀ x, x ∈ togL (A ++ B) ↔ x ∈ A ∨ x ∈ B) := fun x => by rw [tog_mem, List.mem_append]
  have sU : Short (togL (A ++ B)) := fun x hx => (HM.out x).1 hx |>.elim (sA x) (sB x)
  have U1 : Hid (UnionAt n m A B (togL (A ++ B)) 0) := fun ao bo c c' w h k => punion_at ao bo n c m c' A B _ 0 w h k sA sB hu (num1 hn)
  have U2 : Hid (UnionAt m n B A (togL (A ++ B)) 0) := fun ao bo c c' w h k => punion_at ao bo m c n c' B A _ 0 w h k sB sA (union_comm hu) (num2 hn)
  have U3 : Hid (UnionAt n n A A A 0) := fun ao bo c c' w h k => punion_at ao bo n c n c' A A A 0 w h k sA sA (union_self hyes.1) (num3 hn)
  obtain ⟨ru, hrue⟩ : ∃ ru, togL (A ++ B) = ru := ⟨_, rfl⟩
  rw [hrue] at U1 U2 hul hru HM sU
  obtain ⟨nu, hnu⟩ : ∃ nu, ru.length = nu := ⟨_, rfl⟩
  have S1 : Hid (∀ ao c w, RdS w ao nu c ru → Calls Try.prog 9 #[.slice ao nu c] w fun e w' => ∃ v, e = .returned (.tuple #[v, .int .i64 (0 : Nat)]) ∧ w'.ownsRow w.heap.size 9 1 v ru.length (cellsS ru) ∧ Below w.heap.size w w') := fun ao c w h => psorted_at ao nu c ru ru 0 w h sU (sorted_rise hru) (num4 hn (by omega))
  have R1 : Hid (RisesAt nu ru true) := fun ao c w h => rises_at ao nu c ru true w h sU ⟨fun _ => hru, fun _ => rfl⟩
  have SM : Hid SameAt := same_is
  have HAl : Hid (A.length = n) := hA.eqlen
  have HBl : Hid (B.length = m) := hB.eqlen
  have HUl : Hid (ru.length = nu) := hnu
  unfold UnionAt at U1 U2 U3
  rw [hnu] at U1 U2 S1 hul
  rw [hA.eqlen] at U3
  clear hu hru sU sA sB hyes hrue hnu
  go_enter Try.func3, Try.ntmps3
  go_wp2_with (first
    | (go_at_call 4; refine (fixed_at _).mono ?_; rintro e w1 ⟨rfl, hB1⟩)
    | (at_builtin; refine wp_copyS w1 rfl (.tmp 18) (.tmp 19) rfl rfl ao n c A rfl (hA.below (Nat.le_refl _) hB1) (by omega) ?_; intro v2 w2 hO2 hB2; obtain ⟨a2, c2, rfl, hR2⟩ := rds_of_owns hO2; have hBw2 := bt2 hB1 hB2)
    | (at_builtin; refine wp_copyS w2 rfl (.tmp 21) (.tmp 22) rfl rfl bo m c' B rfl (hB.below (Nat.le_refl _) hBw2) (by omega) ?_; intro v3 w3 hO3 hB3; obtain ⟨a3, c3, rfl, hR3⟩ := rds_of_owns hO3; have hBw3 := bt2 hBw2 hB3)
    | (have _t := q1; go_at_call 5; refine (U2.out _ _ _ _ _ (hR5.below (Nat.le_refl _) hB6) hR6).mono ?_; rintro e w7 ⟨v7, rfl, hO7, hB7⟩; obtain ⟨a7, c7, rfl, hR7⟩ := rds_of_owns hO7; have hBw7 := bt2 hBw6 hB7)
    | (go_at_call 5; refine (U1.out _ _ _ _ _ (hR2.below (Nat.le_refl _) hB3) hR3).mono ?_; rintro e w4 ⟨v4, rfl, hO4, hB4⟩; obtain ⟨a4, c4, rfl, hR4⟩ := rds_of_owns hO4; have hBw4 := bt2 hBw3 hB4; have q1 : Hid True := trivial)
    | (at_builtin; refine wp_copyS w4 rfl (.tmp 28) (.tmp 29) rfl rfl bo m c' B rfl (hB.below (Nat.le_refl _) hBw4) (by omega) ?_; intro v5 w5 hO5 hB5; obtain ⟨a5, c5, rfl, hR5⟩ := rds_of_owns hO5; have hBw5 := bt2 hBw4 hB5)
    | (at_builtin; refine wp_copyS w5 rfl (.tmp 31) (.tmp 32) rfl rfl ao n c A rfl (hA.below (Nat.le_refl _) hBw5) (by omega) ?_; intro v6 w6 hO6 hB6; obtain ⟨a6, c6, rfl, hR6⟩ := rds_of_owns hO6; have hBw6 := bt2 hBw5 hB6)
    | (go_at_call 6; refine (SM.out _ _ _ _ _ _ ru _ (hR4.below (Nat.le_refl _) (bt2 (bt2 hB5 hB6) hB7)) hR7).mono ?_; rintro e w8 ⟨rfl, hB8⟩; have hBw8 := bt2 hBw7 hB8; have hU8 := hR4.below (Nat.le_refl _) (bt2 (bt2 (bt2 hB5 hB6) hB7) hB8)))
  clear hO2 hO3 hO4 hO5 hO6 hO7 hR2 hR3 hR4 hR5 hR6 hR7 hB1 hB2 hB3 hB4 hB5 hB6 hB7 hB8 hBw2 hBw3 hBw4 hBw5 hBw6 hBw7 U1 U2 q1 _t
  have hucn := hU8.lecap
  have hucx := hU8.lemax
  have hA8 := hA.below (Nat.le_refl _) hBw8
  have hB8 := hB.below (Nat.le_refl _) hBw8
  go_loopw [62] (fun i wr => ∃ k : Nat, k ≤ nu ∧ i = .int .i64 k ∧ Below w8.heap.size w8 wr) (fun i _ => nu - (intOf i).toNat)
  case atStart => exact ⟨0, Nat.zero_le _, rfl, Below.refl _ _⟩
  case round =>
    obtain ⟨k, hk, rfl, hBr⟩ := hrel
    by_cases hlt : k < nu
    · obtain ⟨g, o, rfl, hc0⟩ := hU8.cell k hlt
      have hc := (hBr.cell (p := ⟨g, o + k, none⟩) (World.block_lt_of_cell? _ _ hc0)).trans hc0
      have hmem : ru.getD k emp ∈ ru := by rw [sgetD_of (by rw [HUl.out]; exact hlt)]; exact List.getElem_mem _
      have hor := (HM.out _).1 hmem
      generalize hx : ru.getD k emp = x at *
      clear hx hmem hc0
      by_cases hxA : x ∈ A
      · have I1 : Hid (IndexYes n A x) := index_yes hxA
        clear hor hxA
        go_wp2_with (go_at_call 8; refine (I1.out _ _ _ (hA8.below (Nat.le_refl _) hBr)).mono ?_; rintro e w9 ⟨z, rfl, hB9⟩; have hz : decide ((z : Int) < 0) = false := decide_eq_false (by omega))
        go_roundw
        case rel => exact ⟨k + 1, by omega, by go_num, bt2 hBr hB9⟩
        case measure => simp [intOf]; omega
      · have I1 : Hid (IndexNo n A x) := index_no hxA
        have I2 : Hid (IndexYes m B x) := index_yes (hor.resolve_left hxA)
        clear hor hxA
        go_wp2_with (first
          | (have _t := q3; go_at_call 8; refine (I2.out _ _ _ (hB8.below (Nat.le_refl _) (bt2 hBr hB9))).mono ?_; rintro e w10 ⟨z, rfl, hB10⟩; have hz : decide ((z : Int) < 0) = false := decide_eq_false (by omega))
          | (go_at_call 8; refine (I1.out _ _ _ (hA8.below (Nat.le_refl _) hBr)).mono ?_; rintro e w9 ⟨rfl, hB9⟩; have q3 : Hid True := trivial))
        go_roundw
        case rel => exact ⟨k + 1, by omega, by go_num, bt2 (bt2 hBr hB9) hB10⟩
        case measure => simp [intOf]; omega
    · obtain rfl : k = nu := by omega
      go_wp2_with (first
        | (at_builtin; refine wp_copyS wr rfl (.tmp 77) (.tmp 78) rfl rfl ao n c A rfl (hA8.below (Nat.le_refl _) hBr) (by omega) ?_; intro v9 w9 hO9 hB9; have hBr9 := bt2 hBr hB9)
        | (at_builtin; refine wp_joinS w8 _ w8.heap.size wr.heap.size rfl (.tmp 79) (.tmp 80) rfl _ n A rfl bo m c' B rfl hO9 (hB8.below (Nat.le_refl _) hBr9) hB9.size (by omega) hBr9 hBr.size ?_; intro v10 w10 hO10 hBr10 _; obtain ⟨a10, c10, rfl, hR10⟩ := rds_of_owns hO10))
      have hrc := hR10.lecap
      have hrx := hR10.lemax
      have hU10 := hU8.below (Nat.le_refl _) hBr10
      have hA10 := hA8.below (Nat.le_refl _) hBr10
      have HABl : Hid ((A ++ B).length = n + m) := hR10.eqlen
      have hBw10 := bt2 hBw8 hBr10
      clear hO9 hO10 hB9 hBr9 hBr hBr10 hA8 hB8 hU8 hBw8
      obtain ⟨wv, hwv⟩ : ∃ wv, wv = wr := ⟨_, rfl⟩
      subst hwv
      go_loopw [83] (fun i wr => ∃ q : Nat, q ≤ n + m ∧ i = .int .i64 q ∧ Below w10.heap.size w10 wr) (fun i _ => n + m - (intOf i).toNat)
      case atStart => exact ⟨0, Nat.zero_le _, rfl, Below.refl _ _⟩
      case round =>
        obtain ⟨q, hq, rfl, hBr⟩ := hrel
        by_cases hlt2 : q < n + m
        · obtain ⟨g, o, rfl, hc0⟩ := hR10.cell q hlt2
          have hc := (hBr.cell (p := ⟨g, o + q, none⟩) (World.block_lt_of_cell? _ _ hc0)).trans hc0
          have hmem : (A ++ B).getD q emp ∈ A ++ B := by rw [sgetD_of (by rw [HABl.out]; exact hlt2)]; exact List.getElem_mem _
          rw [List.mem_append] at hmem
          have I1 : Hid (IndexYes k ru ((A ++ B).getD q emp)) := index_yes ((HM.out _).2 hmem)
          generalize hx : (A ++ B).getD q emp = x at *
          clear hx hmem hc0
          go_wp2_with (go_at_call 8; refine (I1.out _ _ _ (hU10.below (Nat.le_refl _) hBr)).mono ?_; rintro e w11 ⟨z, rfl, hB11⟩; have hz : decide ((z : Int) < 0) = false := decide_eq_false (by omega))
          go_roundw
          case rel => exact ⟨q + 1, by omega, by go_num, bt2 hBr hB11⟩
          case measure => simp [intOf]; omega
        · obtain rfl : q = n + m := by omega
          have hUr := hU10.below (Nat.le_refl _) hBr
          have hAr := hA10.below (Nat.le_refl _) hBr
          have hBwr := bt2 hBw10 hBr
          clear hU10 hA10 hBr hBw10 hR10
          go_wp2_with (first
            | (at_builtin; refine wp_copyS wr rfl (.tmp 93) (.tmp 94) rfl rfl a4 k c4 ru rfl hUr (by omega) ?_; intro v11 w11 hO11 hB11; obtain ⟨a11, c11, rfl, hR11⟩ := rds_of_owns hO11)
            | (go_at_call 9; refine (S1.out _ _ _ hR11).mono ?_; rintro e w12 ⟨v12, rfl, hO12, hB12⟩; obtain ⟨a12, c12, rfl, hR12⟩ := rds_of_owns hO12; have hBr12 := bt2 hB11 hB12)
            | (at_builtin; refine wp_copyS w12 rfl (.tmp 100) (.tmp 101) rfl rfl ao n c A rfl (hAr.below (Nat.le_refl _) hBr12) (by omega) ?_; intro v13 w13 hO13 hB13; obtain ⟨a13, c13, rfl, hR13⟩ := rds_of_owns hO13; have hBr13 := bt2 hBr12 hB13)
            | (at_builtin; refine wp_copyS w13 rfl (.tmp 103) (.tmp 104) rfl rfl ao n c A rfl (hAr.below (Nat.le_refl _) hBr13) (by omega) ?_; intro v14 w14 hO14 hB14; obtain ⟨a14, c14, rfl, hR14⟩ := rds_of_owns hO14; have hBr14 := bt2 hBr13 hB14)
            | (go_at_call 5; refine (U3.out _ _ _ _ _ (hR13.below (Nat.le_refl _) hB14) hR14).mono ?_; rintro e w15 ⟨v15, rfl, hO15, hB15⟩; obtain ⟨a15, c15, rfl, hR15⟩ := rds_of_owns hO15; have hBr15 := bt2 hBr14 hB15; have hB1215 := bt2 (bt2 hB13 hB14) hB15)
            | (go_at_call 7; refine (R1.out _ _ _ (hUr.below (Nat.le_refl _) hBr15)).mono ?_; rintro e w16 ⟨rfl, hB16⟩; have hBr16 := bt2 hBr15 hB16; have hB1216 := bt2 hB1215 hB16)
            | (have _t := q5; go_at_call 6; refine (SM.out _ _ _ _ _ _ A _ (hR15.below (Nat.le_refl _) (bt2 hB16 hB17)) (hAr.below (Nat.le_refl _) hBr17)).mono ?_; rintro e w18 ⟨rfl, hB18⟩)
            | (go_at_call 6; refine (SM.out _ _ _ _ _ _ ru _ (hR12.below (Nat.le_refl _) hB1216) (hUr.below (Nat.le_refl _) hBr16)).mono ?_; rintro e w17 ⟨rfl, hB17⟩; have hBr17 := bt2 hBr16 hB17; have q5 : Hid True := trivial))
          go_ret
          exact ⟨rfl, bt2 hBwr (bt2 hBr17 hB18)⟩
theorem unions_walk (ao bo : Option Addr) (n c m c' : Nat) (A B : List ByteArray) (w : World) (hA : RdS w ao n c A) (hB : RdS w bo m c' B) (sA : Short A) (sB : Short B) (hn : n + m ≤ 1048576) :
    Calls Try.prog 3 #[.slice ao n c, .slice bo m c'] w fun e w' => e = .returned (.bool true) ∧ Below w.heap.size w w' := by
  by_cases h : Rise A ∧ Rise B
  · exact unions_yes ao bo n c m c' A B w hA hB sA sB hn h
  · exact unions_no ao bo n c m c' A B w hA hB sA sB hn h
end Go.Proofs.Ytdfdbhjgighkpab.Gl
