/- The document's cubes of a row; its Pack. -/
import Derived.Test.YthkabeaecfiinaaRwD
namespace Go.Proofs.Ythkabeaecfiinaa.Ro
open Go.RowKit
set_option linter.unusedVariables false

theorem owns_one (w : World) (d : Cb) (t : TypeId) (base : Nat) (hb : base ≤ w.heap.size) : (w.alloc (.cells #[.int .i64 d.m, .int .i64 d.b, .int .i64 d.t] t)).ownsRow base t 3 (.slice (some ⟨w.heap.size, 0, none⟩) 1 1) 1 (cellsC [d]) :=
  ⟨rfl, .inr ⟨w.heap.size, 1, _, rfl, hb, heap_alloc_new w _, Nat.le_refl _, by unfold maxLen; omega, rfl, rfl⟩⟩
theorem lenK {k : Nat} {zs us : List Int} (hl : zs.length = 2 ^ (k + 1)) : (cb k (zs.take (2 ^ k)) 0 0).length ≤ 2 ^ k := by rw [cb_len]; exact cn_len k _ (take_len hl)
def CubesOk (k : Nat) : Prop := ∀ (ao : Option Addr) (n c : Nat) (zs : List Int) (m b : Nat) (w : World), n = 2 ^ k → k ≤ 6 → m + n ≤ 64 → b + n ≤ 64 → RdZ w ao n c zs →
    Calls Try.prog 23 #[.slice ao n c, .int .i64 (m : Nat), .int .i64 (b : Nat)] w fun e w' => ∃ v, e = .returned v ∧ w'.ownsRow w.heap.size 35 3 v (cb k zs m b).length (cellsC (cb k zs m b)) ∧ Below w.heap.size w w'
theorem cubes_zero : CubesOk 0 := by
  intro ao n c zs m b w hn hk hm hb h
  have hn1 : n = 1 := by simpa using hn
  subst hn1
  have hcn := h.lecap
  have hcx := h.lemax
  obtain ⟨g, o, rfl, hc0⟩ := h.cell 0 (by omega)
  have hc : w.cell? ⟨g, o, none⟩ = some (.int .i64 (zs.getD 0 0)) := hc0
  have HE : Hid (∃ y, zs.getD 0 0 = y) := ⟨_, rfl⟩
  obtain ⟨y, hy⟩ := HE.out
  have HY : Hid (zs.getD 0 0 = y) := hy
  rw [hy] at hc
  clear hy HE hn h hc0
  go_enter Try.func23, Try.ntmps23
  go_wp2
  go_ret
  refine ⟨_, rfl, ?_, bal _ _⟩
  show World.ownsRow _ _ _ _ _ 1 (cellsC [⟨m, b, zs.getD 0 0⟩])
  rw [HY.out]
  exact owns_one w ⟨m, b, y⟩ _ _ (Nat.le_refl _)
set_option maxHeartbeats 1000000 in
theorem cubes_step (k : Nat) (ih : CubesOk k) : CubesOk (k + 1) := by
  intro ao n c zs m b w hn hk hm hb h
  have hl := h.eqlen
  obtain ⟨H, hH⟩ : ∃ H, 2 ^ k = H := ⟨_, rfl⟩
  have hn2 : n = 2 * H := by rw [hn, pow_dbl, hH]; omega
  have hH1 : 0 < H := by rw [← hH]; exact Nat.pow_pos (by omega)
  have hH64 : H ≤ 64 := by omega
  have hne : ¬ ((n : Int) = 1) := by omega
  have hcn := h.lecap
  have hcx := h.lemax
  have hlo : (hlf zs H 0).length = H := by rw [hlf_zero, List.length_take]; omega
  have hhi : (hlf zs H 1).length = H := by rw [hlf_one zs H (by omega), List.length_drop]; omega
  have HCB : Hid (cb (k + 1) zs m b = if hlf zs H 0 = hlf zs H 1 then cb k (hlf zs H 0) m b else cb k (hlf zs H 0) (m + H) b ++ cb k (hlf zs H 1) (m + H) (b + H)) := by
    rw [hlf_zero, hlf_one zs H (by omega), ← hH]; rfl
  have IH : Hid (∀ (ao : Option Addr) (c : Nat) (zs : List Int) (m b : Nat) (w : World), m + H ≤ 64 → b + H ≤ 64 → RdZ w ao H c zs →
    Calls Try.prog 23 #[.slice ao H c, .int .i64 (m : Nat), .int .i64 (b : Nat)] w fun e w' => ∃ v, e = .returned v ∧ w'.ownsRow w.heap.size 35 3 v (cb k zs m b).length (cellsC (cb k zs m b)) ∧ Below w.heap.size w w') :=
    fun ao c zs m b w h1 h2 h3 => ih ao H c zs m b w hH.symm (by omega) h1 h2 h3
  have HF : Hid (∀ (d : Nat) w, d ≤ 1 → RdZ w ao n c zs → Calls Try.prog 28 #[.slice ao n c, .int .i64 d] w fun e w' => ∃ v, e = .returned v ∧ w'.ownsRow w.heap.size 3 1 v H (cellsZ (hlf zs H d)) ∧ Below w.heap.size w w') :=
    fun d w hd h => by rw [hn2] at h ⊢; exact half_at ao H c zs d w h hd hH64
  have HLn : Hid (∀ (zs : List Int) m b, zs.length = H → (cb k zs m b).length ≤ H) := fun zs m b e => by rw [cb_len, ← hH]; exact cn_len k zs (by rw [hH]; exact e)
  have HLO : Hid ((hlf zs H 0).length = H) := hlo
  have HHI : Hid ((hlf zs H 1).length = H) := hhi
  have kw1 : IntKind.i64.wrap ((m : Int) + (H : Int)) = ((m + H : Nat) : Int) := by rw [IntKind.wrap_i64]; omega
  have kw2 : IntKind.i64.wrap ((b : Int) + (H : Int)) = ((b + H : Nat) : Int) := by rw [IntKind.wrap_i64]; omega
  have hm' : m + H + H ≤ 64 := by omega
  have hb' : b + H + H ≤ 64 := by omega
  clear hl hn hH hlo hhi ih hn2
  by_cases he : hlf zs H 0 = hlf zs H 1
  · have HE : Hid (hlf zs H 0 = hlf zs H 1) := he
    have HC : Hid (cb (k + 1) zs m b = cb k (hlf zs H 0) m b) := by show _ = _; rw [HCB.out, if_pos he]
    clear he
    go_enter Try.func23, Try.ntmps23
    go_wp2_with (first
      | (go_at_call 28; have _t := q1; refine (HF.out 1 _ (by omega) (h.below (Nat.le_refl _) hB1)).mono ?_; rintro e w2 ⟨v2, rfl, hO2, hB2⟩; obtain ⟨a2, c2, rfl, hR2⟩ := rdz_of_owns hO2; have hR1' := hR1.below (Nat.le_refl _) hB2; clear q1 hO2; have hW2 := bt2 hB1 hB2)
      | (go_at_call 28; refine (HF.out 0 _ (by omega) h).mono ?_; rintro e w1 ⟨v1, rfl, hO1, hB1⟩; obtain ⟨a1, c1, rfl, hR1⟩ := rdz_of_owns hO1; clear hO1; have q1 : Hid True := trivial)
      | (go_at_call 29; refine (rsame_at _ _ _ _ _ _ _ _ true _ hR1' hR2 ⟨fun _ => HE.out, fun _ => rfl⟩ rfl).mono ?_; rintro e w3 ⟨rfl, hB3⟩; have hR3 := hR1'.below (Nat.le_refl _) hB3; have hW3 := bt2 hW2 hB3)
      | (go_at_call 23; refine (IH.out _ _ _ m b _ (by omega) (by omega) hR3).mono ?_; rintro e w4 ⟨v4, rfl, hO4, hB4⟩))
    go_ret
    exact ⟨_, rfl, by rw [HC.out]; exact owns_mono hO4 hW3.size, bt2 hW3 hB4⟩
  · have HE : Hid (¬ hlf zs H 0 = hlf zs H 1) := he
    have HC : Hid (cb (k + 1) zs m b = cb k (hlf zs H 0) (m + H) b ++ cb k (hlf zs H 1) (m + H) (b + H)) := by show _ = _; rw [HCB.out, if_neg he]
    clear he
    go_enter Try.func23, Try.ntmps23
    go_wp2_with (first
      | (go_at_call 28; have _t := q1; refine (HF.out 1 _ (by omega) (h.below (Nat.le_refl _) hB1)).mono ?_; rintro e w2 ⟨v2, rfl, hO2, hB2⟩; obtain ⟨a2, c2, rfl, hR2⟩ := rdz_of_owns hO2; have hR1' := hR1.below (Nat.le_refl _) hB2; clear q1 hO2; have hW2 := bt2 hB1 hB2)
      | (go_at_call 28; refine (HF.out 0 _ (by omega) h).mono ?_; rintro e w1 ⟨v1, rfl, hO1, hB1⟩; obtain ⟨a1, c1, rfl, hR1⟩ := rdz_of_owns hO1; clear hO1; have q1 : Hid True := trivial)
      | (go_at_call 29; refine (rsame_at _ _ _ _ _ _ _ _ false _ hR1' hR2 ⟨fun e => (by cases e), fun e => absurd e HE.out⟩ rfl).mono ?_; rintro e w3 ⟨rfl, hB3⟩; have hR3 := hR1'.below (Nat.le_refl _) hB3; have hH3 := hR2.below (Nat.le_refl _) hB3; have hW3 := bt2 hW2 hB3)
      | (go_at_call 23; have _t := q4; refine (IH.out _ _ _ (m + H) (b + H) _ hm' hb' hH4).mono ?_; rintro e w5 ⟨v5, rfl, hO5, hB5⟩; have hW5 := bt2 hW4 hB5; have hO4' := own_keep hO4 hB5; obtain ⟨a5, c5, rfl, hR5⟩ := rdc_of_owns hO5; clear q4)
      | (go_at_call 23; refine (IH.out _ _ _ (m + H) b _ hm' (by omega) hR3).mono ?_; rintro e w4 ⟨v4, rfl, hO4, hB4⟩; have hH4 := hH3.below (Nat.le_refl _) hB4; have hW4 := bt2 hW3 hB4; have q4 : Hid True := trivial)
      | (at_builtin; refine wp_joinC _ w3.heap.size rfl (.tmp 40) (.tmp 48) rfl _ _ _ rfl _ _ _ _ rfl hO4' hR5 (Nat.le_trans hB4.size hB5.size) (by have := HLn.out (hlf zs H 0) (m + H) b HLO.out; have := HLn.out (hlf zs H 1) (m + H) (b + H) HHI.out; omega) ?_; intro v6 w6 hO6 hK6 hq6))
    go_ret
    refine ⟨_, rfl, by rw [HC.out, List.length_append]; exact owns_mono hO6 hW3.size, ?_⟩
    refine hW5.trans (hK6.below (fun q hq => ?_) hW5.size)
    have := (hO4'.lt q hq).1
    have := hW3.size
    omega
theorem rcubes_at (k : Nat) : CubesOk k := by
  induction k with
  | zero => exact cubes_zero
  | succ k ih => exact cubes_step k ih
theorem rpack_yes (ao : Option Addr) (n c k : Nat) (zs : List Int) (w : World) (h : RdZ w ao n c zs) (hr : IsRow zs k) :
    Calls Try.prog 10 #[.slice ao n c] w fun e w' => ∃ v, e = .returned (.tuple #[v, .int .i64 0]) ∧ w'.ownsRow w.heap.size 35 3 v (cb0 k zs).length (cellsC (cb0 k zs)) ∧ Below w.heap.size w w' := by
  have HR : Hid (Calls Try.prog 22 #[.slice ao n c] w fun e w' => e = .returned (.bool true) ∧ w = w') := rrow_at ao n c zs true w h ⟨fun _ => ⟨k, hr⟩, fun _ => rfl⟩
  obtain ⟨hk, hl, hp⟩ := hr
  have hn : n = 2 ^ k := by rw [← h.eqlen, hl]
  have h64 := (pow_le hk).2
  have HC : Hid (∀ w, RdZ w ao n c zs → Calls Try.prog 23 #[.slice ao n c, .int .i64 0, .int .i64 0] w fun e w' => ∃ v, e = .returned v ∧ w'.ownsRow w.heap.size 35 3 v (cb0 k zs).length (cellsC (cb0 k zs)) ∧ Below w.heap.size w w') :=
    fun w h => by have := rcubes_at k ao n c zs 0 0 w hn hk (by omega) (by omega) h; rw [cb_zero] at this; exact this
  clear hn h64 hl hp
  go_enter Try.func10, Try.ntmps10
  go_wp2_with (first
    | (go_at_call 22; refine HR.out.mono ?_; rintro e w1 ⟨rfl, rfl⟩)
    | (go_at_call 23; refine (HC.out _ h).mono ?_; rintro e w2 ⟨v2, rfl, hO2, hB2⟩))
  go_ret2
  exact ⟨_, rfl, hO2, hB2⟩
theorem rpack_no (ao : Option Addr) (n c : Nat) (zs : List Int) (w : World) (h : RdZ w ao n c zs) (hr : ¬ ∃ k, IsRow zs k) :
    Calls Try.prog 10 #[.slice ao n c] w fun e w' => ∃ v, e = .returned (.tuple #[v, .int .i64 3]) ∧ w'.ownsRow w.heap.size 35 3 v 0 (cellsC []) ∧ Below w.heap.size w w' := by
  have HR : Hid (Calls Try.prog 22 #[.slice ao n c] w fun e w' => e = .returned (.bool false) ∧ w = w') := rrow_at ao n c zs false w h ⟨fun e => (by cases e), fun e => absurd e hr⟩
  clear hr
  go_enter Try.func10, Try.ntmps10
  go_wp2_with (first
    | (go_at_call 22; refine HR.out.mono ?_; rintro e w1 ⟨rfl, rfl⟩))
  go_ret2
  exact ⟨_, rfl, owns_nil _ _ _ _, Below.refl _ _⟩
end Go.Proofs.Ythkabeaecfiinaa.Ro
