/- BitsPlaces: the walk. -/
import Derived.Test.YtholafecbmhhhaaBitG
import Derived.Test.YtholafecbmhhhaaInts
import Derived.Laws.AppendOwnNone
namespace Go.Proofs.Ytholafecbmhhhaa.Dg
open Go.RowKit
set_option linter.unusedVariables false

abbrev cellsZ (zs : List Int) : List Value := zs.map (Value.int .i64)
theorem rdz_of_owns {w : World} {base : Nat} {v : Value} {k : Nat} {zs : List Int} (h : w.ownsRow base 3 1 v k (cellsZ zs)) : ∃ ro cr, v = .slice ro k cr ∧ RdZ w ro k cr zs := by
  have h' := h
  obtain ⟨hl, hv⟩ := h'
  simp only [List.length_map, Nat.mul_one] at hl
  rcases hv with ⟨rfl, hn⟩ | ⟨g, cap, cur, rfl, hg, hh, hnc, hcm, hcs, hx⟩
  · subst hn
    exact ⟨none, 0, rfl, hl, Nat.le_refl _, by omega, fun _ => rfl, fun i hi => by omega⟩
  · refine ⟨some ⟨g, 0, none⟩, cap, rfl, hl, hnc, hcm, (fun h => nomatch h), (fun i hi => ⟨g, 0, rfl, ?_⟩)⟩
    rw [Nat.zero_add, h.cellAt i (by omega), List.getElem?_map, List.getElem?_eq_getElem (by omega)]
    simp [List.getD_eq_getElem?_getD, List.getElem?_eq_getElem (show i < zs.length by omega)]
/-- 'append([]int{}, x...)': a new slice of the same numbers; nothing old has turned. -/
theorem wp_copyZ {ops : Array Oper} {rest : List Oper} {o : Oper} {a : Act} {Q : Exit → Act → World → Prop} (w0 W : World) (hgd : o.guard = none) (s x : Operand)
    (ho : o.op = .call { callee := .builtin .append, args := #[s, x], argTypes := #[54, 54] }) (hbel : Below w0.heap.size w0 W)
    (hs : a.eval s = .slice (some ⟨W.heap.size, 0, none⟩) 0 0) (ao : Option Addr) (m c : Nat) (zs : List Int) (hx : a.eval x = .slice ao m c) (hR : RdZ W ao m c zs) (hm : m * 8 ≤ 140737488351232)
    (h : ∀ a' c' w', RdZ w' a' m c' zs → Below w0.heap.size w0 w' → wpList Try.prog ops Q rest (a.put o.dst (.slice a' m c')) w') : wpList Try.prog ops Q (o :: rest) a (W.alloc (.cells #[] 3)) := by
  obtain ⟨i0, hi, hz0, hz1, hz2⟩ := info_parts Try.infoInt
  have hown := World.ownsRow_made (base := w0.heap.size) (e := 3) (size := 1) W #[] 0 hbel.size (Nat.zero_le _) (by simp)
  cases ao with
  | none =>
    have hc0 := hR.isnil rfl
    have hl := hR.lecap
    obtain rfl : c = 0 := hc0
    obtain rfl : m = 0 := by omega
    have hz : zs = [] := List.length_eq_zero_iff.1 hR.eqlen
    subst hz
    refine wpList_append_own_none hgd s x 54 ho w0.heap.size 3 i0 1 Try.underlying54 hi _ 0 [] hs hown hx ?_
    obtain ⟨ro, cr, hv, hR'⟩ := rdz_of_owns (zs := []) (by simpa using hown)
    rw [hv]
    exact h _ _ _ hR' (hbel.alloc hbel.size _)
  | some ad =>
    refine wpList_append_own _ hgd s x 54 ho w0.heap.size 3 i0 (.int .i64 0) 1 8 Try.underlying54 hi hz0 hz1 hz2 rfl (by decide) _ 0 [] hs hown ad m c (cellsZ zs) hx (by simp [hR.eqlen]) ?_ (ints_oneCell _ _) (by unfold maxLen; omega) (by omega) ?_ ?_
    · intro j u hj
      rw [List.getElem?_map] at hj
      by_cases hjl : j < zs.length
      · rw [List.getElem?_eq_getElem hjl] at hj
        simp only [Option.map_some, Option.some.injEq] at hj
        subst hj
        obtain ⟨b, off, e, h1⟩ := hR.cell j (by rw [← hR.eqlen]; exact hjl)
        simp only [Option.some.injEq] at e
        subst e
        rw [List.getD_eq_getElem?_getD, List.getElem?_eq_getElem hjl] at h1
        rw [Go.WideShapes.add_plain, World.cell?_of_block (Below.heap_alloc _ _ _ (World.block_lt_of_cell? _ _ h1))]
        exact h1
      · rw [List.getElem?_eq_none (by omega)] at hj
        simp at hj
    · rw [World.size_alloc]; have := hbel.size; omega
    · intro v' w' h2 h3 h4
      rw [List.nil_append, Nat.zero_add] at h2
      obtain ⟨ro, cr, rfl, hR'⟩ := rdz_of_owns h2
      refine h _ _ w' hR' ?_
      refine (hbel.alloc hbel.size _).grown h3 (by rw [World.size_alloc]; have := hbel.size; omega) ?_
      intro k hk
      simp only [Value.ownBlock, Option.some.injEq] at hk
      have := hbel.size
      omega

theorem gather_both (x : Int) (len : Nat) (zs : List Int) : ∃ a e : Int, Hid (∀ w ao cap, RdZ w ao len cap zs → Calls Try.prog 39 #[.int .i64 x, .slice ao len cap] w fun r w' => r = .returned (.tuple #[.int .i64 a, .int .i64 e]) ∧ Below w.heap.size w w') ∧ Hid (∀ w ao cap, RdZ w ao len cap zs → Calls Try.prog 40 #[.int .i64 x, .slice ao len cap] w fun r w' => r = .returned (.tuple #[.int .i64 a, .int .i64 e]) ∧ Below w.heap.size w w') := by
  by_cases h : Fit zs len ∧ (0 ≤ x ∧ x < 64)
  · obtain ⟨L, rfl⟩ : ∃ L : Nat, x = L := ⟨x.toNat, by omega⟩
    exact ⟨_, _, fun w ao cap hR => (bgather_in L ao len cap zs w hR (by omega) h.1).mono fun _ _ ⟨a, b⟩ => ⟨a, Below.of_eq b⟩, fun w ao cap hR => gather_in L ao len cap zs w hR (by omega) h.1⟩
  · exact ⟨0, 2, fun w ao cap hR => (bgather_no x ao len cap zs w hR h).mono fun _ _ ⟨a, b⟩ => ⟨a, Below.of_eq b⟩, fun w ao cap hR => (gather_no x ao len cap zs w hR h).mono fun _ _ ⟨a, b⟩ => ⟨a, Below.of_eq b⟩⟩
theorem spread_both (x : Int) (len : Nat) (zs : List Int) : ∃ a e : Int, Hid (∀ w ao cap, RdZ w ao len cap zs → Calls Try.prog 37 #[.int .i64 x, .slice ao len cap] w fun r w' => r = .returned (.tuple #[.int .i64 a, .int .i64 e]) ∧ Below w.heap.size w w') ∧ Hid (∀ w ao cap, RdZ w ao len cap zs → Calls Try.prog 38 #[.int .i64 x, .slice ao len cap] w fun r w' => r = .returned (.tuple #[.int .i64 a, .int .i64 e]) ∧ Below w.heap.size w w') := by
  by_cases h : Fit zs len ∧ 0 ≤ x ∧ x < ((2 ^ len : Nat) : Int)
  · obtain ⟨hf, h0, hx⟩ := h
    obtain ⟨L, rfl⟩ : ∃ L : Nat, x = L := ⟨x.toNat, by omega⟩
    have hL : L < 2 ^ len := by omega
    by_cases hall : ∀ j, j < len → Free zs j
    · have hok : (∀ j, j < len → Free zs j) → ((num (spr L zs len) : Nat) : Int) = ((num (spr L zs len) : Nat) : Int) ∧ (0 : Int) = 0 := fun _ => ⟨rfl, rfl⟩
      have hno : (∃ j, j < len ∧ ¬ Free zs j) → ((num (spr L zs len) : Nat) : Int) = 0 ∧ (0 : Int) = 5 := fun ⟨j, hj, e⟩ => absurd (hall j hj) e
      exact ⟨_, _, fun w ao cap hR => (bspread_in L _ _ ao len cap zs w hR hL hf hok hno).mono fun _ _ ⟨a, b⟩ => ⟨a, Below.of_eq b⟩, fun w ao cap hR => spread_in L _ _ ao len cap zs w hR hL hf hok hno⟩
    · have hok : (∀ j, j < len → Free zs j) → (0 : Int) = ((num (spr L zs len) : Nat) : Int) ∧ (5 : Int) = 0 := fun h => absurd h hall
      have hno : (∃ j, j < len ∧ ¬ Free zs j) → (0 : Int) = 0 ∧ (5 : Int) = 5 := fun _ => ⟨rfl, rfl⟩
      exact ⟨_, _, fun w ao cap hR => (bspread_in L _ _ ao len cap zs w hR hL hf hok hno).mono fun _ _ ⟨a, b⟩ => ⟨a, Below.of_eq b⟩, fun w ao cap hR => spread_in L _ _ ao len cap zs w hR hL hf hok hno⟩
  · exact ⟨0, 2, fun w ao cap hR => (bspread_no x ao len cap zs w hR h).mono fun _ _ ⟨a, b⟩ => ⟨a, Below.of_eq b⟩, fun w ao cap hR => (spread_no x ao len cap zs w hR h).mono fun _ _ ⟨a, b⟩ => ⟨a, Below.of_eq b⟩⟩

set_option maxHeartbeats 1000000 in
theorem places_walk (x : Int) (ao : Option Addr) (len cap : Nat) (zs : List Int) (w : World) (h : RdZ w ao len cap zs) (hm : len * 8 ≤ 140737488351232) :
    Calls Try.prog 6 #[.int .i64 x, .slice ao len cap] w fun e w' => e = .returned (.bool true) ∧ Below w.heap.size w w' := by
  obtain ⟨a, e, S1, S2⟩ := spread_both x len zs
  obtain ⟨b, f, G1, G2⟩ := gather_both x len zs
  go_enter Try.func6, Try.ntmps6
  go_wp2_with (first
    | (at_builtin; refine wp_copyZ w w rfl (.tmp 14) (.tmp 15) rfl (Below.refl _ _) rfl ao len cap zs rfl h hm ?_; intro a1 c1 w1 hR1 hB1)
    | (go_at_call 37; refine (S1.out _ _ _ hR1).mono ?_; rintro e w2 ⟨rfl, hB2⟩; have hW2 := hB1.trans (hB2.mono hB1.size); have hP2 := h.below (Nat.le_refl _) hW2; have hM2 := hR1.below (Nat.le_refl _) hB2)
    | (go_at_call 38; refine (S2.out _ _ _ hP2).mono ?_; rintro e w3 ⟨rfl, hB3⟩; have hW3 := hW2.trans (hB3.mono hW2.size); have hM3 := hM2.below (Nat.le_refl _) hB3)
    | (go_at_call 39; refine (G1.out _ _ _ hM3).mono ?_; rintro e w4 ⟨rfl, hB4⟩; have hW4 := hW3.trans (hB4.mono hW3.size); have hP4 := h.below (Nat.le_refl _) hW4; have hM4 := hM3.below (Nat.le_refl _) hB4)
    | (go_at_call 40; refine (G2.out _ _ _ hP4).mono ?_; rintro e w5 ⟨rfl, hB5⟩; have hW5 := hW4.trans (hB5.mono hW4.size); have hM5 := hM4.below (Nat.le_refl _) hB5)
    | (go_at_call 9; refine (fixed_at _).mono ?_; rintro e w6 ⟨rfl, hB6⟩; have hW6 := hW5.trans (hB6.mono hW5.size); have hM6 := hM5.below (Nat.le_refl _) hB6; have hP6 := h.below (Nat.le_refl _) hW6)
    | (go_at_call 30; refine (ints_at _ _ _ _ _ _ zs zs true _ hM6 hP6 ⟨fun _ => rfl, fun _ => rfl⟩).mono ?_; rintro e w7 ⟨rfl, hB7⟩))
  go_ret
  exact ⟨by simp, hW6.trans (hB7.mono hW6.size)⟩
end Go.Proofs.Ytholafecbmhhhaa.Dg
