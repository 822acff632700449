/- WordOrder: the walk. -/
import Derived.Test.YtkanjgphmafjbabWoK
import Derived.OpenShut
namespace Go.Proofs.Ytkanjgphmafjbab.Wo
open Go.RowKit
set_option linter.unusedVariables false

/-- what a law is handed as a slice of integers, read as a list -/
theorem rdz_arg {w : World} {a : Option Addr} {len cap : Nat} {zs : List Int} (h : (a = none ∧ len = 0 ∧ cap = 0 ∧ zs = []) ∨
    ∃ x, a = some x ∧ len ≤ cap ∧ cap * 8 ≤ 140737488351232 ∧ zs.length = cap ∧ (∀ i, i < zs.length → w.cell? (x.add i) = some (.int .i64 (zs.getD i 0))) ∧ ∀ n ∈ zs, (Lit.int .i64 n).wf = true) :
    RdZ w a len cap (zs.take len) ∧ len * 8 ≤ 140737488351232 ∧ In64 (zs.take len) := by
  rcases h with ⟨rfl, rfl, rfl, rfl⟩ | ⟨x, rfl, hl, hm, hz, hc, hw⟩
  · exact ⟨rdz_nil w, by omega, fun v hv => by cases hv⟩
  · refine ⟨⟨by rw [List.length_take]; omega, hl, by omega, (fun h => nomatch h), fun i hi => ?_⟩, by omega, fun v hv => ?_⟩
    · obtain ⟨b, off, rfl, hc'⟩ := _root_.Go.ints_at hc (by omega)
      refine ⟨b, off, rfl, ?_⟩
      have := hc' i (by omega)
      rw [this, List.getD_eq_getElem?_getD, List.getD_eq_getElem?_getD, List.getElem?_take, if_pos hi]
    · have := hw v (List.mem_of_mem_take hv)
      simpa [Lit.wf, IntKind.min, IntKind.max, IntKind.signed, IntKind.bits] using this
theorem same_yes (ao ao' : Option Addr) (n c m c' : Nat) (T U : List Int) (w : World) (h : RdZ w ao n c T) (k : RdZ w ao' m c' U) (hr : T = U) :
    Calls Try.prog 6 #[.slice ao n c, .slice ao' m c'] w fun e w' => e = .returned (.bool true) ∧ Below w.heap.size w w' := same_at ao ao' n c m c' T U true w h k ⟨fun _ => hr, fun _ => rfl⟩
theorem same_not (ao ao' : Option Addr) (n c m c' : Nat) (T U : List Int) (w : World) (h : RdZ w ao n c T) (k : RdZ w ao' m c' U) (hr : ¬ T = U) :
    Calls Try.prog 6 #[.slice ao n c, .slice ao' m c'] w fun e w' => e = .returned (.bool false) ∧ Below w.heap.size w w' := same_at ao ao' n c m c' T U false w h k ⟨fun e => (by cases e), fun e => absurd e hr⟩
set_option maxHeartbeats 2000000 in
theorem order_walk_at (ao bo co : Option Addr) (n m l c1 c2 c3 : Nat) (T U V : List Int) (x r1 r2 r3 : Int) (b : Bool) (w : World) (hA : RdZ w ao n c1 T) (hB : RdZ w bo m c2 U) (hC : RdZ w co l c3 V) (hm : n * 8 ≤ 140737488351232)
    (H1 : Hid (r1 = cmp T U)) (H2 : Hid (r2 = cmp U V)) (H3 : Hid (r3 = cmp T V)) (HS : Hid (b = true ↔ T = U)) (hb : b = decide (r1 = 0)) (hv : (r1 = -1 ∨ r1 = 0 ∨ r1 = 1) ∧ (r2 = -1 ∨ r2 = 0 ∨ r2 = 1) ∧ (r3 = -1 ∨ r3 = 0 ∨ r3 = 1)) (t1 : r1 ≤ 0 → r2 ≤ 0 → r3 ≤ 0) (t2 : 0 ≤ r1 → 0 ≤ r2 → 0 ≤ r3) :
    Calls Try.prog 3 #[.slice ao n c1, .slice bo m c2, .slice co l c3, .int .i64 x] w fun e w' => e = .returned (.bool true) ∧ Below w.heap.size w w' := by
  obtain ⟨hv1, hv2, hv3⟩ := hv
  have hcm := hA.lecap
  have hcx := hA.lemax
  have HZ : Hid ((-1 : Int) = cmp T (T ++ [x])) := (cmp_snoc T x).symm
  rcases hv1 with rfl | rfl | rfl <;> rcases hv2 with rfl | rfl | rfl <;> rcases hv3 with rfl | rfl | rfl <;> first | (exfalso; omega) | skip
  all_goals
    simp only [Int.reduceNeg, Int.reduceEq, decide_true, decide_false] at hb
    subst hb
    clear t1 t2
    first | (have HQ : Hid (T = U) := HS.out.1 rfl) | (have HQ : Hid (¬ T = U) := fun e => by have := HS.out.2 e; cases this)
    clear HS
    go_enter Try.func3, Try.ntmps3
    go_wp2_with (first
      | (go_at_call 4; refine (fixed_at _).mono ?_; rintro e w1 ⟨rfl, hB1⟩; have hA1 := hA.below (Nat.le_refl _) hB1; have hU1 := hB.below (Nat.le_refl _) hB1; have hC1 := hC.below (Nat.le_refl _) hB1)
      | (go_at_call 5; have _t := q5; refine (words_at _ _ _ _ _ _ T (T ++ [x]) (-1) _ hA5 hR5 HZ.out).mono ?_; rintro e w' ⟨rfl, rfl⟩)
      | (go_at_call 5; have _t := q2; refine (words_at _ _ _ _ _ _ T V _ _ hA1 hC1 H3.out).mono ?_; rintro e w' ⟨rfl, rfl⟩; have q3 : Hid True := trivial)
      | (go_at_call 5; have _t := q1; refine (words_at _ _ _ _ _ _ U V _ _ hU1 hC1 H2.out).mono ?_; rintro e w' ⟨rfl, rfl⟩; have q2 : Hid True := trivial)
      | (go_at_call 5; refine (words_at _ _ _ _ _ _ T U _ _ hA1 hU1 H1.out).mono ?_; rintro e w' ⟨rfl, rfl⟩; have q1 : Hid True := trivial)
      | (go_at_call 6; refine (same_yes _ _ _ _ _ _ T U _ hA1 hU1 HQ.out).mono ?_; rintro e w2 ⟨rfl, hB2⟩; have hW2 := hB1.trans (hB2.mono hB1.size); have hA2 := hA.below (Nat.le_refl _) hW2)
      | (go_at_call 6; refine (same_not _ _ _ _ _ _ T U _ hA1 hU1 HQ.out).mono ?_; rintro e w2 ⟨rfl, hB2⟩; have hW2 := hB1.trans (hB2.mono hB1.size); have hA2 := hA.below (Nat.le_refl _) hW2)
      | (at_builtin; refine wp_copyZ w2 w2 rfl (.tmp 54) (.tmp 55) rfl (Below.refl _ _) rfl ao n c1 T rfl hA2 hm ?_; intro a3 c3' w3 hR3 hB3 hO3)
      | (at_builtin; refine wp_pushZ w2 _ w2.heap.size w2.heap.size rfl (.tmp 56) (.tmp 58) rfl _ n T rfl w3.heap.size x rfl (hO3.alloc _) (cell_new1 _ _ _) (size_new1 hB3.size _) (by omega) (hB3.alloc hB3.size _) (Nat.le_refl _) ?_; intro v4 w4 hO4 hB4; obtain ⟨a4, c4, rfl, hR5⟩ := rdz_of_owns hO4; have hA5 := hA2.below (Nat.le_refl _) hB4; have hW4 := hW2.trans (hB4.mono hW2.size); have q5 : Hid True := trivial))
    go_ret
    exact ⟨by simp, hW4⟩
theorem order_walk (ao bo co : Option Addr) (n m l c1 c2 c3 : Nat) (T U V : List Int) (x : Int) (w : World) (hA : RdZ w ao n c1 T) (hB : RdZ w bo m c2 U) (hC : RdZ w co l c3 V) (hm : n * 8 ≤ 140737488351232) :
    Calls Try.prog 3 #[.slice ao n c1, .slice bo m c2, .slice co l c3, .int .i64 x] w fun e w' => e = .returned (.bool true) ∧ Below w.heap.size w w' := by
  have b1 := cmp_bd T U
  have b2 := cmp_bd U V
  have b3 := cmp_bd T V
  refine order_walk_at ao bo co n m l c1 c2 c3 T U V x _ _ _ _ w hA hB hC hm rfl rfl rfl ?_ rfl ⟨by omega, by omega, by omega⟩ (fun p q => cmp_trans T U V p q) (fun p q => ?_)
  · show _ ↔ _
    rw [decide_eq_true_iff]; exact cmp_zero T U
  · have e1 := cmp_neg T U
    have e2 := cmp_neg U V
    have e3 := cmp_neg T V
    have := cmp_trans V U T (by omega) (by omega)
    omega
end Go.Proofs.Ytkanjgphmafjbab.Wo
