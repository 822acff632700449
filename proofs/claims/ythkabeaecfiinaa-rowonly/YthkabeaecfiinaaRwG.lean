/- Pack and Leaves; the law's fixed. -/
import Derived.Test.YthkabeaecfiinaaRwF
namespace Go.Proofs.Ythkabeaecfiinaa.Ro
open Go.RowKit
set_option linter.unusedVariables false

theorem pack_yes (ao : Option Addr) (n c k : Nat) (zs : List Int) (w : World) (h : RdZ w ao n c zs) (hr : IsRow zs k) :
    Calls Try.prog 9 #[.slice ao n c] w fun e w' => ∃ v, e = .returned (.tuple #[v, .int .i64 0]) ∧ w'.ownsRow w.heap.size 35 3 v (cb0 k zs).length (cellsC (cb0 k zs)) ∧ Below w.heap.size w w' := by
  have HR : Hid (Calls Try.prog 20 #[.slice ao n c] w fun e w' => e = .returned (.bool true) ∧ w = w') := isRow_at ao n c zs true w h ⟨fun _ => ⟨k, hr⟩, fun _ => rfl⟩
  obtain ⟨hk, hl, hp⟩ := hr
  have hn : n = 2 ^ k := by rw [← h.eqlen, hl]
  have h64 := pow_le hk
  obtain ⟨g, o, rfl, hc⟩ := h.cell 0 (by omega)
  have hg := World.block_lt_of_cell? _ _ hc
  have HC : Hid (Calls Try.prog 21 #[.slice none 0 0, .slice (some ⟨g, o, none⟩) n c, .agg #[.int .i64 0, .int .i64 0, .int .i64 0]] w fun e w' => ∃ v, e = .returned v ∧ w'.ownsRow w.heap.size 35 3 v (cb0 k zs).length (cellsC (cb0 k zs)) ∧ Below w.heap.size w w') := by
    have := walk_at k g o n c zs 0 0 0 (.slice none 0 0) 0 [] w.heap.size w hn hk (Nat.zero_mod _) (Nat.zero_mod _) (by omega) (by omega) h hg (owns_nil _ _ _ _) (Nat.le_refl _) (by omega)
    refine this.mono ?_
    rintro e w1 ⟨v', rfl, hO, hK, hq⟩
    rw [cb_zero, Nat.zero_add, List.nil_append] at hO
    exact ⟨v', rfl, hO, Kp.none hK⟩
  clear hn h64 hl hp hc
  go_enter Try.func9, Try.ntmps9
  go_wp2_with (first
    | (go_at_call 20; refine HR.out.mono ?_; rintro e w1 ⟨rfl, rfl⟩)
    | (go_at_call 21; refine HC.out.mono ?_; rintro e w2 ⟨v2, rfl, hO2, hB2⟩))
  go_ret2
  exact ⟨_, rfl, hO2, hB2⟩
theorem pack_no (ao : Option Addr) (n c : Nat) (zs : List Int) (w : World) (h : RdZ w ao n c zs) (hr : ¬ ∃ k, IsRow zs k) :
    Calls Try.prog 9 #[.slice ao n c] w fun e w' => ∃ v, e = .returned (.tuple #[v, .int .i64 3]) ∧ w'.ownsRow w.heap.size 35 3 v 0 (cellsC []) ∧ Below w.heap.size w w' := by
  have HR : Hid (Calls Try.prog 20 #[.slice ao n c] w fun e w' => e = .returned (.bool false) ∧ w = w') := isRow_at ao n c zs false w h ⟨fun e => (by cases e), fun e => absurd e hr⟩
  clear hr
  go_enter Try.func9, Try.ntmps9
  go_wp2_with (first
    | (go_at_call 20; refine HR.out.mono ?_; rintro e w1 ⟨rfl, rfl⟩))
  go_ret2
  exact ⟨_, rfl, owns_nil _ _ _ _, Below.refl _ _⟩
/-- what Pack answers -/
def packV (zs : List Int) (L : List Cb) (er : Int) : Prop := (∃ k, IsRow zs k ∧ L = cb0 k zs ∧ er = 0) ∨ ((¬ ∃ k, IsRow zs k) ∧ L = [] ∧ er = 3)
theorem packV_is (zs : List Int) : ∃ L er, packV zs L er := by
  by_cases h : ∃ k, IsRow zs k
  · obtain ⟨k, hk⟩ := h; exact ⟨_, _, .inl ⟨k, hk, rfl, rfl⟩⟩
  · exact ⟨_, _, .inr ⟨h, rfl, rfl⟩⟩
theorem packV_len {zs : List Int} {L : List Cb} {er : Int} (h : packV zs L er) : L.length ≤ 64 := by
  rcases h with ⟨k, ⟨hk, hl, _⟩, rfl, _⟩ | ⟨_, rfl, _⟩
  · exact Nat.le_trans (cb0_len k zs hl) (pow_le hk).2
  · simp
theorem pack_any (ao : Option Addr) (n c : Nat) (zs : List Int) (L : List Cb) (er : Int) (w : World) (h : RdZ w ao n c zs) (hr : packV zs L er) :
    Calls Try.prog 9 #[.slice ao n c] w fun e w' => ∃ a' c', e = .returned (.tuple #[.slice a' L.length c', .int .i64 er]) ∧ w'.ownsRow w.heap.size 35 3 (.slice a' L.length c') L.length (cellsC L) ∧ Below w.heap.size w w' := by
  rcases hr with ⟨k, hk, rfl, rfl⟩ | ⟨hk, rfl, rfl⟩
  · refine (pack_yes ao n c k zs w h hk).mono ?_
    rintro e w1 ⟨v, rfl, hO, hB⟩
    obtain ⟨a', c', rfl, _⟩ := rdc_of_owns hO
    exact ⟨a', c', rfl, hO, hB⟩
  · refine (pack_no ao n c zs w h hk).mono ?_
    rintro e w1 ⟨v, rfl, hO, hB⟩
    obtain ⟨a', c', rfl, _⟩ := rdc_of_owns hO
    exact ⟨a', c', rfl, hO, hB⟩
theorem rpack_any (ao : Option Addr) (n c : Nat) (zs : List Int) (L : List Cb) (er : Int) (w : World) (h : RdZ w ao n c zs) (hr : packV zs L er) :
    Calls Try.prog 10 #[.slice ao n c] w fun e w' => ∃ a' c', e = .returned (.tuple #[.slice a' L.length c', .int .i64 er]) ∧ w'.ownsRow w.heap.size 35 3 (.slice a' L.length c') L.length (cellsC L) ∧ Below w.heap.size w w' := by
  rcases hr with ⟨k, hk, rfl, rfl⟩ | ⟨hk, rfl, rfl⟩
  · refine (rpack_yes ao n c k zs w h hk).mono ?_
    rintro e w1 ⟨v, rfl, hO, hB⟩
    obtain ⟨a', c', rfl, hR⟩ := rdc_of_owns hO
    exact ⟨a', c', rfl, hO, hB⟩
  · refine (rpack_no ao n c zs w h hk).mono ?_
    rintro e w1 ⟨v, rfl, hO, hB⟩
    obtain ⟨a', c', rfl, hR⟩ := rdc_of_owns hO
    exact ⟨a', c', rfl, hO, hB⟩
theorem leaves_at (ao : Option Addr) (n c : Nat) (zs : List Int) (L : List Cb) (er : Int) (w : World) (h : RdZ w ao n c zs) (hr : packV zs L er) :
    Calls Try.prog 8 #[.slice ao n c] w fun e w' => e = .returned (.tuple #[.int .i64 (L.length : Nat), .int .i64 er]) ∧ Below w.heap.size w w' := by
  have HP : Hid (packV zs L er) := hr
  have h64 := packV_len hr
  clear hr
  go_enter Try.func8, Try.ntmps8
  go_wp2_with (go_at_call 9; refine (pack_any _ _ _ zs L er _ h HP.out).mono ?_; rintro e w1 ⟨a1, c1, rfl, hO1, hB1⟩)
  go_ret2
  exact ⟨rfl, hB1⟩
theorem fix_row : packV [1, 1, 2, 3] [⟨2, 0, 1⟩, ⟨3, 2, 2⟩, ⟨3, 3, 3⟩] 0 := .inl ⟨2, ⟨by omega, rfl, by decide⟩, by decide, rfl⟩
theorem rdz_four (w : World) (a b c d : Int) (t : TypeId) : RdZ (w.alloc (.cells #[.int .i64 a, .int .i64 b, .int .i64 c, .int .i64 d] t)) (some ⟨w.heap.size, 0, none⟩) 4 4 [a, b, c, d] := by
  refine ⟨rfl, Nat.le_refl _, by omega, (fun e => nomatch e), fun i hi => ⟨w.heap.size, 0, rfl, ?_⟩⟩
  match i, hi with
  | 0, _ => simp
  | 1, _ => simp
  | 2, _ => simp
  | 3, _ => simp
theorem rdc_three (w : World) (x y z : Cb) (t : TypeId) : RdC (w.alloc (.cells #[.int .i64 x.m, .int .i64 x.b, .int .i64 x.t, .int .i64 y.m, .int .i64 y.b, .int .i64 y.t, .int .i64 z.m, .int .i64 z.b, .int .i64 z.t] t)) (some ⟨w.heap.size, 0, none⟩) 3 3 [x, y, z] := by
  refine ⟨rfl, Nat.le_refl _, by omega, (fun e => nomatch e), fun i hi => ⟨w.heap.size, 0, rfl, by simp, ?_⟩⟩
  match i, hi with
  | 0, _ => simp
  | 1, _ => simp
  | 2, _ => simp
theorem fixed_at (w : World) : Calls Try.prog 11 #[] w fun e w' => e = .returned (.bool true) ∧ Below w.heap.size w w' := by
  have HZ := rdz_four w 1 1 2 3 3
  go_enter Try.func11, Try.ntmps11
  go_wp2_with (first
    | (go_at_call 9; refine (pack_any _ _ _ _ _ _ _ HZ fix_row).mono ?_; rintro e w1 ⟨a1, c1, rfl, hO1, hB1⟩; obtain ⟨a2, c2, e2, hR1⟩ := rdc_of_owns hO1; obtain ⟨rfl, -, rfl⟩ := Value.slice.inj e2; have hB1' := bt2 (bal w _) hB1; have hR2 := fun o => hR1.below (Nat.le_refl _) (bal w1 o))
    | (go_at_call 12; refine (cubes_at _ _ _ _ _ _ _ _ true _ (hR2 _) (rdc_three w1 ⟨2, 0, 1⟩ ⟨3, 2, 2⟩ ⟨3, 3, 3⟩ _) ⟨fun _ => rfl, fun _ => rfl⟩).mono ?_; rintro e w3 ⟨rfl, hB3⟩))
  go_ret
  exact ⟨rfl, bt2 (bta hB1' _) hB3⟩
end Go.Proofs.Ythkabeaecfiinaa.Ro
