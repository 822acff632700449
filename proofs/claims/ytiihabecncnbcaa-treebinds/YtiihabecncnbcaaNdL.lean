/- union, without: lists of names. -/
import Derived.Test.YtiihabecncnbcaaNdK
import Derived.Test.YtiihabecncnbcaaTrN
namespace Go.Proofs.Ytiihabecncnbcaa.Gl
open Go.RowKit Go.Sort
set_option linter.unusedVariables false

theorem delete_own (base n : Nat) (v : Value) (T : List ByteArray) (i : Nat) (w : World) (h : w.ownsRow base 9 1 v n (cellsS T)) (hn : n ≤ 100000) (hi : i < n) :
    Calls Try.prog 59 #[v, .int .i64 (i : Nat), .int .i64 ((i + 1 : Nat) : Int)] w fun e w' => ∃ v', e = .returned v' ∧ w'.ownsRow base 9 1 v' (T.take i ++ T.drop (i + 1)).length (cellsS (T.take i ++ T.drop (i + 1))) ∧ w.grownBy w' v.ownBlock := by
  have hl := owns_len h
  rcases h.2 with ⟨rfl, rfl⟩ | ⟨g, cap, cur, rfl, hbg, hh, hnc, hcm, hcs, ht⟩
  · omega
  · have hl2 : (tl T).length = n := by rw [List.length_map, hl]
    have hH : Holds encStr w g 0 (tl T).toArray := holds_of_block hh (by rw [hl2, ← cells_tl]; simpa using ht)
    have K := delete_lib g 0 cap i (i + 1) (tl T) w hH (by omega) (by unfold maxLen at hcm; omega) (by omega) (by omega)
    rw [hl2] at K
    refine K.mono ?_
    rintro e w' ⟨rfl, q, rfl⟩
    have hs := ownsRow_sorted (w := w) (base := base) (g := g) (cap := cap) (n := q) (e := 9) (os := #[]) (cur := cur) (ss := tl T) (ts := (tl T).take i ++ (tl T).drop (i + 1) ++ List.replicate (i + 1 - i) []) (by simp [hl2]; omega) hbg hh (by rw [hl2]; exact hnc) hcm hcs
    have hgr := grownBy_sorted (w := w) (g := g) (n := q) (os := #[]) ((tl T).take i ++ (tl T).drop (i + 1) ++ List.replicate (i + 1 - i) []).toArray
    rw [grow_empty] at hs hgr
    rw [hl2] at hs
    have e0 : (T.take i ++ T.drop (i + 1)).length = n - 1 := by simp [hl]; omega
    have e2 : cellsS (T.take i ++ T.drop (i + 1)) = ((tl T).take i ++ (tl T).drop (i + 1)).map encStr := by
      rw [cells_tl]; simp [tl]
    refine ⟨_, rfl, ?_, hgr⟩
    rw [e0, e2]
    rw [List.map_append] at hs
    have e1 : n = (n - 1) + ((List.replicate (i + 1 - i) ([] : L8)).map encStr).length := by simp; omega
    rw [show n - (i + 1 - i) = n - 1 by omega]
    refine owns_prefix (ys := (List.replicate (i + 1 - i) ([] : L8)).map encStr) (by simp; omega) ?_ rfl
    rw [← e1]
    exact hs
/- where it stands -/
theorem idx_none (s : ByteArray) : ∀ (T : List ByteArray) (k : Int), 0 ≤ k → (idx s T k = -1 ∧ s ∉ T) ∨ ∃ i : Nat, i < T.length ∧ idx s T k = k + i ∧ T.getD i emp = s
  | [], k, h => .inl ⟨rfl, by simp⟩
  | x :: T, k, h => by
    rw [idx]
    by_cases hx : x = s
    · subst hx
      rw [if_pos ((eqS_iff x x).2 rfl)]
      exact .inr ⟨0, by simp, by simp, by simp⟩
    · rw [if_neg (fun e => hx ((eqS_iff x s).1 e))]
      rcases idx_none s T (k + 1) (by omega) with ⟨h1, h2⟩ | ⟨i, h1, h2, h3⟩
      · exact .inl ⟨h1, by simp [h2]; exact fun e => hx e.symm⟩
      · exact .inr ⟨i + 1, by simp; omega, by rw [h2]; omega, by simpa using h3⟩
theorem ris_erase {T : List ByteArray} (h : Ris T) {i : Nat} (hi : i < T.length) : Ris (T.take i ++ T.drop (i + 1)) ∧ ∀ x, x ∈ T.take i ++ T.drop (i + 1) ↔ x ∈ T ∧ x ≠ T.getD i emp := by
  have hs : T = T.take i ++ T[i] :: T.drop (i + 1) := by
    rw [← List.drop_eq_getElem_cons hi, List.take_append_drop]
  have hg : T.getD i emp = T[i] := sgetD_of hi
  rw [hg]
  generalize T[i] = y at *
  generalize T.take i = A at *
  generalize T.drop (i + 1) = B at *
  subst hs
  have hp := List.pairwise_append.1 h
  have hp2 := List.pairwise_cons.1 hp.2.1
  refine ⟨List.pairwise_append.2 ⟨hp.1, hp2.2, fun a ha b hb => hp.2.2 a ha b (List.mem_cons_of_mem _ hb)⟩, fun x => ?_⟩
  simp only [List.mem_append, List.mem_cons]
  constructor
  · rintro (hx | hx)
    · exact ⟨.inl hx, fun e => by subst e; exact s_irr x (hp.2.2 x hx x (List.mem_cons_self ..))⟩
    · exact ⟨.inr (.inr hx), fun e => by subst e; exact s_irr x (hp2.1 x hx)⟩
  · rintro ⟨hx | hx | hx, hne⟩
    · exact .inl hx
    · exact absurd hx hne
    · exact .inr hx
set_option maxHeartbeats 2000000 in
theorem without_at (base : Nat) (v : Value) (T : List ByteArray) (s : ByteArray) (w : World) (h : w.ownsRow base 9 1 v T.length (cellsS T)) (hn : T.length ≤ 100000) (hR : Ris T) (hb : base ≤ w.heap.size) :
    Calls Try.prog 44 #[v, .string s] w fun e w' => ∃ v' R, e = .returned v' ∧ w'.ownsRow base 9 1 v' R.length (cellsS R) ∧ Ris R ∧ (∀ x, x ∈ R ↔ x ∈ T ∧ x ≠ s) ∧ Below base w w' := by
  obtain ⟨ro, cr, rfl, hS⟩ := rds_of_owns h
  have IC : Hid (Calls Try.prog 58 #[.slice ro T.length cr, .string s] w fun e w' => e = .returned (.int .i64 (idx s T 0)) ∧ Below w.heap.size w w') := index_at ro T.length cr T s w hS
  rcases idx_none s T 0 (Int.le_refl _) with ⟨h1, h2⟩ | ⟨i, h1, h2, h3⟩
  · rw [h1] at IC
    have HF : Hid (∀ w2, Below w.heap.size w w2 → w2.ownsRow base 9 1 (.slice ro T.length cr) T.length (cellsS T) ∧ Ris T ∧ (∀ x, x ∈ T ↔ x ∈ T ∧ x ≠ s) ∧ Below base w w2) :=
      fun w2 hw => ⟨owns_below h hw, hR, fun x => ⟨fun hx => ⟨hx, fun e => by subst e; exact h2 hx⟩, fun hx => hx.1⟩, hw.mono hb⟩
    clear h h2 hR hS h1
    go_enter Try.func44, Try.ntmps44
    go_wp2_with (go_at_call 58; refine IC.out.mono ?_; rintro e w2 ⟨rfl, hB2⟩)
    go_ret
    exact ⟨_, T, rfl, HF.out w2 hB2⟩
  · rw [h2, Int.zero_add] at IC
    have DC : Hid (∀ w2, Below w.heap.size w w2 → Calls Try.prog 59 #[.slice ro T.length cr, .int .i64 (i : Nat), .int .i64 ((i : Int) + 1)] w2 fun e w' => ∃ v' R, e = .returned v' ∧ w'.ownsRow base 9 1 v' R.length (cellsS R) ∧ Ris R ∧ (∀ x, x ∈ R ↔ x ∈ T ∧ x ≠ s) ∧ Below base w w') := by
      intro w2 hw
      have hk := owns_below h hw
      refine (delete_own base T.length _ T i w2 hk hn h1).mono ?_
      rintro e w' ⟨v', rfl, r1, r2⟩
      obtain ⟨e1, e2⟩ := ris_erase hR h1
      rw [h3] at e2
      exact ⟨v', _, rfl, r1, e1, e2, owns_below2 (hw.mono hb) hk (Nat.le_refl _) r2 (Nat.le_trans hb hw.size)⟩
    clear h hR hS h2 h3
    go_enter Try.func44, Try.ntmps44
    go_wp2_with (first
      | (go_at_call 58; refine IC.out.mono ?_; rintro e w2 ⟨rfl, hB2⟩)
      | (go_at_call 59; refine (DC.out w2 hB2).mono ?_; rintro e w3 ⟨v', R, rfl, hr⟩))
    go_ret
    exact ⟨v', R, rfl, hr⟩
set_option maxHeartbeats 2000000 in
theorem union_at (ao bo : Option Addr) (n c m c' : Nat) (A B : List ByteArray) (w : World) (hA : RdS w ao n c A) (hB : RdS w bo m c' B) (nA : ∀ x ∈ A, IsName x ∧ x.size ≤ 4096) (nB : ∀ x ∈ B, IsName x ∧ x.size ≤ 4096) (rA : Ris A) (rB : Ris B) (hn : n + m ≤ 100000) :
    Calls Try.prog 42 #[.slice ao n c, .slice bo m c'] w fun e w' => ∃ v, e = .returned v ∧ w'.ownsRow w.heap.size 9 1 v (togL (A ++ B)).length (cellsS (togL (A ++ B))) ∧ Below w.heap.size w w' := by
  have UC : Hid (Calls Try.prog 20 #[.slice ao n c, .slice bo m c'] w fun e w' => ∃ v, e = .returned (.tuple #[v, .int .i64 (0 : Nat)]) ∧ w'.ownsRow w.heap.size 9 1 v (togL (A ++ B)).length (cellsS (togL (A ++ B))) ∧ Below w.heap.size w w') :=
    punion_at ao bo n c m c' A B (togL (A ++ B)) 0 w hA hB (fun x hx => by have := (nA x hx).2; omega) (fun x hx => by have := (nB x hx).2; omega) (.inr ⟨⟨(rise_iff A).2 ⟨fun x hx => (nA x hx).1, rA⟩, (rise_iff B).2 ⟨fun x hx => (nB x hx).1, rB⟩⟩, rfl, rfl⟩) (by omega)
  generalize togL (A ++ B) = R at *
  clear hA hB nA nB rA rB
  go_enter Try.func42, Try.ntmps42
  go_wp2_with (go_at_call 20; refine UC.out.mono ?_; rintro e w2 ⟨v, rfl, hO2, hB2⟩)
  go_ret
  exact ⟨v, rfl, hO2, hB2⟩
end Go.Proofs.Ytiihabecncnbcaa.Gl
