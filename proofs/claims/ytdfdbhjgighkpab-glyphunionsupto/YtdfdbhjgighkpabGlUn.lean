/- The walk of GlyphUnions. -/
import Derived.Test.YtdfdbhjgighkpabGlW
namespace Go.Proofs.Ytdfdbhjgighkpab.Gl
open Go.RowKit
set_option linter.unusedVariables false

theorem num1 {n m : Nat} (h : n + m ≤ 1048576) : (n + m + 2) * 16 ≤ 140737488355328 := by omega
theorem num2 {n m : Nat} (h : n + m ≤ 1048576) : (m + n + 2) * 16 ≤ 140737488355328 := by omega
theorem num3 {n m : Nat} (h : n + m ≤ 1048576) : (n + n + 2) * 16 ≤ 140737488355328 := by omega
theorem num4 {n m k : Nat} (h : n + m ≤ 1048576) (hk : k ≤ n + m) : (k + 2) * 16 ≤ 140737488355328 := by omega
theorem idx_ge (s : ByteArray) : ∀ (T : List ByteArray) (k : Int), 0 ≤ k → -1 ≤ idx s T k
  | [], k, h => by simp [idx]
  | x :: T, k, h => by
    rw [idx]
    split
    · omega
    · exact idx_ge s T (k + 1) (by omega)
theorem idx_in (s : ByteArray) : ∀ (T : List ByteArray) (k : Int), 0 ≤ k → (0 ≤ idx s T k ↔ s ∈ T)
  | [], k, h => by simp [idx]
  | x :: T, k, h => by
    rw [idx]
    split
    · rename_i hx
      have := (eqS_iff x s).1 hx
      subst this
      simp [h]
    · rename_i hx
      rw [idx_in s T (k + 1) (by omega), List.mem_cons]
      constructor
      · exact .inr
      · rintro (rfl | h)
        · exact absurd ((eqS_iff s s).2 rfl) hx
        · exact h
theorem union_comm {A B r : List ByteArray} {er : Nat} (h : UnionIs A B r er) : UnionIs B A r er := by
  rcases h with ⟨h1, h2, h3⟩ | ⟨h1, rfl, h3⟩
  · exact .inl ⟨fun h => h1 h.symm, h2, h3⟩
  · refine .inr ⟨h1.symm, ?_, h3⟩
    refine ris_unique (tog_ris _) (tog_ris _) (fun x => ?_)
    rw [tog_mem, tog_mem, List.mem_append, List.mem_append]
    exact Or.comm
theorem union_self {A : List ByteArray} (h : Rise A) : UnionIs A A A 0 := by
  refine .inr ⟨⟨h, h⟩, ?_, rfl⟩
  refine ris_unique ((rise_iff A).1 h).2 (tog_ris _) (fun x => ?_)
  rw [tog_mem, List.mem_append]
  exact ⟨.inl, fun h => h.elim id id⟩
theorem rise_union {A B : List ByteArray} (h : Rise A ∧ Rise B) : Rise (togL (A ++ B)) := by
  rw [rise_iff]
  refine ⟨fun x hx => ?_, tog_ris _⟩
  rw [tog_mem, List.mem_append] at hx
  exact hx.elim (((rise_iff A).1 h.1).1 x) (((rise_iff B).1 h.2).1 x)
theorem sorted_rise {T : List ByteArray} (h : Rise T) : SortedIs T T 0 := by
  obtain ⟨h1, h2⟩ := (rise_iff T).1 h
  exact .inr (.inr ⟨h1, ris_nodup h2, (tog_self h2).symm, rfl⟩)
abbrev UnionAt (n m : Nat) (A B r : List ByteArray) (er : Nat) : Prop := ∀ ao bo c c' w, RdS w ao n c A → RdS w bo m c' B → Calls Try.prog 5 #[.slice ao n c, .slice bo m c'] w fun e w' => ∃ v, e = .returned (.tuple #[v, .int .i64 er]) ∧ w'.ownsRow w.heap.size 9 1 v r.length (cellsS r) ∧ Below w.heap.size w w'
abbrev SameAt : Prop := ∀ ao ao' n c m c' (T : List ByteArray) w, RdS w ao n c T → RdS w ao' m c' T → Calls Try.prog 6 #[.slice ao n c, .slice ao' m c'] w fun e w' => e = .returned (.bool true) ∧ Below w.heap.size w w'
theorem same_is : SameAt := fun ao ao' n c m c' T w h k => same_at ao ao' n c m c' T T true w h k ⟨fun _ => rfl, fun _ => rfl⟩
abbrev RisesAt (n : Nat) (A : List ByteArray) (b : Bool) : Prop := ∀ ao c w, RdS w ao n c A → Calls Try.prog 7 #[.slice ao n c] w fun e w' => e = .returned (.bool b) ∧ Below w.heap.size w w'
set_option maxRecDepth 100000 in
set_option maxHeartbeats 8000000 in
theorem unions_no (ao bo : Option Addr) (n c m c' : Nat) (A B : List ByteArray) (w : World) (hA : RdS w ao n c A) (hB : RdS w bo m c' B) (sA : Short A) (sB : Short B) (hn : n + m ≤ 1048576) (hno : ¬ (Rise A ∧ Rise B)) :
    Calls Try.prog 3 #[.slice ao n c, .slice bo m c'] w fun e w' => e = .returned (.bool true) ∧ Below w.heap.size w w' := by
  have U1 : Hid (UnionAt n m A B [] 3) := fun ao bo c c' w h k => punion_at ao bo n c m c' A B [] 3 w h k sA sB (.inl ⟨hno, rfl, rfl⟩) (num1 hn)
  have U2 : Hid (UnionAt m n B A [] 3) := fun ao bo c c' w h k => punion_at ao bo m c n c' B A [] 3 w h k sB sA (.inl ⟨fun h => hno h.symm, rfl, rfl⟩) (num2 hn)
  obtain ⟨b1, hb1⟩ := bool_for (Rise A)
  obtain ⟨b2, hb2⟩ := bool_for (Rise B)
  have R1 : Hid (RisesAt n A b1) := fun ao c w h => rises_at ao n c A b1 w h sA hb1
  have R2 : Hid (RisesAt m B b2) := fun ao c w h => rises_at ao m c B b2 w h sB hb2
  have SM : Hid SameAt := same_is
  have hcase : b1 = false ∨ (b1 = true ∧ b2 = false) := by
    cases hq : b1 with
    | false => exact .inl rfl
    | true =>
      refine .inr ⟨rfl, ?_⟩
      cases hq2 : b2 with
      | false => rfl
      | true => exact absurd ⟨hb1.1 hq, hb2.1 hq2⟩ hno
  clear sA sB hb1 hb2 hno
  rcases hcase with rfl | ⟨rfl, rfl⟩
  all_goals
    go_enter Try.func3, Try.ntmps3
    go_wp2_with (first
      | (go_at_call 4; refine (fixed_at _).mono ?_; rintro e w1 ⟨rfl, hB1⟩)
      | (at_builtin; refine wp_copyS w1 rfl (.tmp 18) (.tmp 19) rfl rfl ao n c A rfl (hA.below (Nat.le_refl _) hB1) (by omega) ?_; intro v2 w2 hO2 hB2; obtain ⟨a2, c2, rfl, hR2⟩ := rds_of_owns hO2; have hBw2 := bt2 hB1 hB2)
      | (at_builtin; refine wp_copyS w2 rfl (.tmp 21) (.tmp 22) rfl rfl bo m c' B rfl (hB.below (Nat.le_refl _) hBw2) (by omega) ?_; intro v3 w3 hO3 hB3; obtain ⟨a3, c3, rfl, hR3⟩ := rds_of_owns hO3; have hBw3 := bt2 hBw2 hB3)
      | (have _t := q1; go_at_call 5; refine (U2.out _ _ _ _ _ (hR5.below (Nat.le_refl _) hB6) hR6).mono ?_; rintro e w7 ⟨v7, rfl, hO7, hB7⟩; obtain ⟨a7, c7, rfl, hR7⟩ := rds_of_owns hO7; have hBw7 := bt2 hBw6 hB7)
      | (go_at_call 5; refine (U1.out _ _ _ _ _ (hR2.below (Nat.le_refl _) hB3) hR3).mono ?_; rintro e w4 ⟨v4, rfl, hO4, hB4⟩; obtain ⟨a4, c4, rfl, hR4⟩ := rds_of_owns hO4; have hBw4 := bt2 hBw3 hB4; have q1 : Hid True := trivial)
      | (at_builtin; refine wp_copyS w4 rfl (.tmp 28) (.tmp 29) rfl rfl bo m c' B rfl (hB.below (Nat.le_refl _) hBw4) (by omega) ?_; intro v5 w5 hO5 hB5; obtain ⟨a5, c5, rfl, hR5⟩ := rds_of_owns hO5; have hBw5 := bt2 hBw4 hB5)
      | (at_builtin; refine wp_copyS w5 rfl (.tmp 31) (.tmp 32) rfl rfl ao n c A rfl (hA.below (Nat.le_refl _) hBw5) (by omega) ?_; intro v6 w6 hO6 hB6; obtain ⟨a6, c6, rfl, hR6⟩ := rds_of_owns hO6; have hBw6 := bt2 hBw5 hB6)
      | (go_at_call 6; refine (SM.out _ _ _ _ _ _ [] _ (hR4.below (Nat.le_refl _) (bt2 (bt2 hB5 hB6) hB7)) hR7).mono ?_; rintro e w8 ⟨rfl, hB8⟩; have hBw8 := bt2 hBw7 hB8)
      | (have _t := q2; go_at_call 7; refine (R2.out _ _ _ (hB.below (Nat.le_refl _) hBw9)).mono ?_; rintro e w10 ⟨rfl, hB10⟩; have hBw9 := bt2 hBw9 hB10)
      | (go_at_call 7; refine (R1.out _ _ _ (hA.below (Nat.le_refl _) hBw8)).mono ?_; rintro e w9 ⟨rfl, hB9⟩; have hBw9 := bt2 hBw8 hB9; have q2 : Hid True := trivial))
    go_ret
    exact ⟨rfl, hBw9⟩
end Go.Proofs.Ytdfdbhjgighkpab.Gl
