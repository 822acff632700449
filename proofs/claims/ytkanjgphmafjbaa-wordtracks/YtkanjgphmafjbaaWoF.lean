/- WordDigits: the walk. -/
import Derived.Test.YtkanjgphmafjbaaWoE
import Derived.OpenShut
namespace Go.Proofs.Ytkanjgphmafjbaa.Wo
open Go.RowKit
set_option linter.unusedVariables false

theorem rdz_of_owns' {w : World} {base g n : Nat} {t : TypeId} {zs : List Int} (h : w.ownsRow base t 1 (.slice (some ⟨g, 0, none⟩) n n) n (cellsZ zs)) : RdZ w (some ⟨g, 0, none⟩) n n zs := by
  obtain ⟨ro, cr, hv, hR⟩ := rdz_of_owns h
  obtain ⟨rfl, _, rfl⟩ := Value.slice.inj hv
  exact hR
set_option maxHeartbeats 1000000 in
theorem digits_walk_in (v : Int) (n : Nat) (ao : Option Addr) (len cap : Nat) (zs : List Int) (w : World) (l : -9223372036854775808 ≤ v) (u : v ≤ 9223372036854775807) (h : RdZ w ao len cap zs) (hm : len * 8 ≤ 140737488351232) (hn : ln v ≤ n) (hn' : n ≤ 64) :
    Calls Try.prog 3 #[.int .i64 v, .int .i64 n, .slice ao len cap] w fun e w' => e = .returned (.bool true) ∧ Below w.heap.size w w' := by
  obtain ⟨x, er, hnum⟩ := numV_is zs
  have HN : Hid (numV zs x er) := hnum
  clear hnum
  go_enter Try.func3, Try.ntmps3
  go_wp2_with (first
    | (at_builtin; refine wp_copyZ w w rfl (.tmp 15) (.tmp 16) rfl (Below.refl _ _) rfl ao len cap zs rfl h hm ?_; intro a1 c1 w1 hR1 hB1 hO1; clear hO1)
    | (go_at_call 9; refine (digits_in v n _ l u hn hn').mono ?_; rintro e w2 ⟨g, rfl, _, hO2, hB2⟩; have hW2 := hB1.trans (hB2.mono hB1.size); have hP2 := h.below (Nat.le_refl _) hW2; have hM2 := hR1.below (Nat.le_refl _) hB2; have hD2 := rdz_of_owns' hO2; clear hO2)
    | (go_at_call 10; refine (number_at _ _ _ zs x er _ hM2 HN.out).mono ?_; rintro e w' ⟨rfl, rfl⟩)
    | (go_at_call 11; refine (rnumber_at _ _ _ zs x er _ hP2 HN.out).mono ?_; rintro e w3 ⟨rfl, hB3⟩; have hW3 := hW2.trans (hB3.mono hW2.size); have hM3 := hM2.below (Nat.le_refl _) hB3; have hD3 := hD2.below (Nat.le_refl _) hB3)
    | (go_at_call 12; refine (rlength_at v _ l u).mono ?_; rintro e w4 ⟨rfl, hB4⟩; have hW4 := hW3.trans (hB4.mono hW3.size); have hM4 := hM3.below (Nat.le_refl _) hB4; have hD4 := hD3.below (Nat.le_refl _) hB4)
    | (go_at_call 13; refine (fixed_at _).mono ?_; rintro e w5 ⟨rfl, hB5⟩; have hW5 := hW4.trans (hB5.mono hW4.size); have hM5 := hM4.below (Nat.le_refl _) hB5; have hD5 := hD4.below (Nat.le_refl _) hB5; have hP5 := h.below (Nat.le_refl _) hW5)
    | (go_at_call 14; refine (length_at v _ l u).mono ?_; rintro e w' ⟨rfl, rfl⟩)
    | (go_at_call 15; have _t := hR7; refine (same_at _ _ _ _ _ _ (dgs v n) (dgs v n) true _ hD7 hR7 ⟨fun _ => rfl, fun _ => rfl⟩).mono ?_; rintro e w8 ⟨rfl, hB8⟩; have hW8 := hW7.trans (hB8.mono hW7.size))
    | (go_at_call 15; refine (same_at _ _ _ _ _ _ zs zs true _ hM5 hP5 ⟨fun _ => rfl, fun _ => rfl⟩).mono ?_; rintro e w6 ⟨rfl, hB6⟩; have hW6 := hW5.trans (hB6.mono hW5.size); have hD6 := hD5.below (Nat.le_refl _) hB6)
    | (go_at_call 16; refine (rdigits_at v n _ l u hn').mono ?_; rintro e w7 ⟨r7, rfl, hO7, hB7⟩; have hW7 := hW6.trans (hB7.mono hW6.size); have hD7 := hD6.below (Nat.le_refl _) hB7; obtain ⟨a7, c7, rfl, hR7⟩ := rdz_of_owns hO7))
  go_ret
  exact ⟨by simp, hW8⟩
set_option maxHeartbeats 1000000 in
theorem digits_walk_no (v n : Int) (ao : Option Addr) (len cap : Nat) (zs : List Int) (w : World) (l : -9223372036854775808 ≤ v) (u : v ≤ 9223372036854775807) (h : RdZ w ao len cap zs) (hm : len * 8 ≤ 140737488351232) (hn : n < ln v ∨ 64 < n) :
    Calls Try.prog 3 #[.int .i64 v, .int .i64 n, .slice ao len cap] w fun e w' => e = .returned (.bool true) ∧ Below w.heap.size w w' := by
  obtain ⟨x, er, hnum⟩ := numV_is zs
  have HN : Hid (numV zs x er) := hnum
  have HX : Hid (n < ln v ∨ 64 < n) := hn
  clear hnum hn
  by_cases h1 : n < ln v
  all_goals try (have h2 : 64 < n := by have := HX.out; omega)
  all_goals
    go_enter Try.func3, Try.ntmps3
    go_wp2_with (first
      | (at_builtin; refine wp_copyZ w w rfl (.tmp 15) (.tmp 16) rfl (Below.refl _ _) rfl ao len cap zs rfl h hm ?_; intro a1 c1 w1 hR1 hB1 hO1; clear hO1; have hP1 := h.below (Nat.le_refl _) hB1)
      | (go_at_call 9; refine (digits_no v n _ l u HX.out).mono ?_; rintro e w' ⟨rfl, rfl⟩)
      | (go_at_call 10; refine (number_at _ _ _ zs x er _ hR1 HN.out).mono ?_; rintro e w' ⟨rfl, rfl⟩)
      | (go_at_call 11; refine (rnumber_at _ _ _ zs x er _ hP1 HN.out).mono ?_; rintro e w3 ⟨rfl, hB3⟩; have hW3 := hB1.trans (hB3.mono hB1.size); have hM3 := hR1.below (Nat.le_refl _) hB3)
      | (go_at_call 12; refine (rlength_at v _ l u).mono ?_; rintro e w4 ⟨rfl, hB4⟩; have hW4 := hW3.trans (hB4.mono hW3.size); have hM4 := hM3.below (Nat.le_refl _) hB4)
      | (go_at_call 13; refine (fixed_at _).mono ?_; rintro e w5 ⟨rfl, hB5⟩; have hW5 := hW4.trans (hB5.mono hW4.size); have hM5 := hM4.below (Nat.le_refl _) hB5; have hP5 := h.below (Nat.le_refl _) hW5)
      | (go_at_call 14; refine (length_at v _ l u).mono ?_; rintro e w' ⟨rfl, rfl⟩)
      | (go_at_call 15; refine (same_at _ _ _ _ _ _ zs zs true _ hM5 hP5 ⟨fun _ => rfl, fun _ => rfl⟩).mono ?_; rintro e w6 ⟨rfl, hB6⟩; have hW6 := hW5.trans (hB6.mono hW5.size)))
    go_ret
    exact ⟨by simp, hW6⟩
theorem digits_walk (v n : Int) (ao : Option Addr) (len cap : Nat) (zs : List Int) (w : World) (l : -9223372036854775808 ≤ v) (u : v ≤ 9223372036854775807) (h : RdZ w ao len cap zs) (hm : len * 8 ≤ 140737488351232) :
    Calls Try.prog 3 #[.int .i64 v, .int .i64 n, .slice ao len cap] w fun e w' => e = .returned (.bool true) ∧ Below w.heap.size w w' := by
  by_cases hn : n < ln v ∨ 64 < n
  · exact digits_walk_no v n ao len cap zs w l u h hm hn
  · obtain ⟨N, rfl⟩ : ∃ N : Nat, n = N := ⟨n.toNat, by omega⟩
    exact digits_walk_in v N ao len cap zs w l u h hm (by omega) (by omega)
/-- what a law is handed as a slice of integers, read as a list -/
theorem rdz_arg {w : World} {a : Option Addr} {len cap : Nat} {zs : List Int} (h : (a = none ∧ len = 0 ∧ cap = 0 ∧ zs = []) ∨
    ∃ x, a = some x ∧ len ≤ cap ∧ cap * 8 ≤ 140737488351232 ∧ zs.length = cap ∧ (∀ i, i < zs.length → w.cell? (x.add i) = some (.int .i64 (zs.getD i 0))) ∧ ∀ n ∈ zs, (Lit.int .i64 n).wf = true) :
    RdZ w a len cap (zs.take len) ∧ len * 8 ≤ 140737488351232 ∧ In64 (zs.take len) := by
  rcases h with ⟨rfl, rfl, rfl, rfl⟩ | ⟨x, rfl, hl, hm, hz, hc, hw⟩
  · exact ⟨rdz_nil w, by omega, fun v hv => by cases hv⟩
  · refine ⟨⟨by rw [List.length_take]; omega, hl, by omega, (fun h => nomatch h), fun i hi => ?_⟩, by omega, fun v hv => ?_⟩
    · obtain ⟨b, off, rfl, hc'⟩ := _root_.Go.ints_at hc (by omega)
      refine ⟨b, off, rfl, ?_⟩
      have := hc' i (by omega)
      rw [this, List.getD_eq_getElem?_getD, List.getD_eq_getElem?_getD, List.getElem?_take, if_pos hi]
    · have := hw v (List.mem_of_mem_take hv)
      simpa [Lit.wf, IntKind.min, IntKind.max, IntKind.signed, IntKind.bits] using this
end Go.Proofs.Ytkanjgphmafjbaa.Wo
