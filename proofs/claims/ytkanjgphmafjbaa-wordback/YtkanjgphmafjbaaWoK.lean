/- Layer 3: Compare. -/
import Derived.Test.YtkanjgphmafjbaaWoB
namespace Go.Proofs.Ytkanjgphmafjbaa.Wo
open Go.RowKit
set_option linter.unusedVariables false

theorem isNaN_at (x : Int) (w : World) : Calls Try.prog 52 #[.int .i64 x] w fun e w' => e = .returned (.bool false) ∧ w = w' := by
  go_enter Try.func52, Try.ntmps52
  go_wp2
  go_ret
  exact ⟨by simp, rfl⟩
theorem compare_at (x y r : Int) (w : World) (h1 : x < y → r = -1) (h2 : y < x → r = 1) (h3 : x = y → r = 0) :
    Calls Try.prog 42 #[.int .i64 x, .int .i64 y] w fun e w' => e = .returned (.int .i64 r) ∧ w = w' := by
  by_cases c1 : x < y
  · have HE : Hid (r = -1) := h1 c1
    clear h1 h2 h3
    go_enter Try.func42, Try.ntmps42
    go_wp2_with (go_at_call 52; refine (isNaN_at _ _).mono ?_; rintro e w' ⟨rfl, rfl⟩)
    go_ret
    exact ⟨ret1 HE.out.symm, rfl⟩
  · by_cases c2 : y < x
    · have HE : Hid (r = 1) := h2 c2
      clear h1 h2 h3
      go_enter Try.func42, Try.ntmps42
      go_wp2_with (go_at_call 52; refine (isNaN_at _ _).mono ?_; rintro e w' ⟨rfl, rfl⟩)
      go_ret
      exact ⟨ret1 HE.out.symm, rfl⟩
    · have HE : Hid (r = 0) := h3 (by omega)
      clear h1 h2 h3
      go_enter Try.func42, Try.ntmps42
      go_wp2_with (go_at_call 52; refine (isNaN_at _ _).mono ?_; rintro e w' ⟨rfl, rfl⟩)
      go_ret
      exact ⟨ret1 HE.out.symm, rfl⟩
set_option maxHeartbeats 1000000 in
theorem lex_walk (ao bo : Option Addr) (n c c' : Nat) (T U : List Int) (r : Int) (w : World) (h : RdZ w ao n c T) (k : RdZ w bo n c' U) (hr : r = lex T U) :
    Calls Try.prog 43 #[.slice ao n c, .slice bo n c'] w fun e w' => e = .returned (.int .i64 r) ∧ w = w' := by
  have hcn := h.lecap
  have hcx := h.lemax
  have hcm := k.lecap
  have hmx := k.lemax
  have HT : Hid (T.length = n) := h.eqlen
  have HU : Hid (U.length = n) := k.eqlen
  have HR : Hid (r = lex T U) := hr
  clear hr
  go_enter Try.func43, Try.ntmps43
  go_wp2
  go_loop [11] (fun i => ∃ j : Nat, j ≤ n ∧ i = .int .i64 j ∧ Hid (∀ a, a < j → T.getD a 0 = U.getD a 0)) (fun i => n - (intOf i).toNat)
  case atStart => exact ⟨0, Nat.zero_le _, rfl, fun a ha => absurd ha (by omega)⟩
  case round =>
    obtain ⟨j, hj, rfl, hall⟩ := hrel
    by_cases hlt : j < n
    · obtain ⟨g, o, rfl, hb⟩ := h.cell j hlt
      obtain ⟨g', o', rfl, hc⟩ := k.cell j hlt
      rcases Int.lt_trichotomy (T.getD j 0) (U.getD j 0) with he | he | he
      · have HE : Hid (r = -1) := HR.out.trans (lex_less T U j (by rw [HT.out]; exact hlt) (by rw [HU.out]; exact hlt) hall.out he)
        generalize hx : T.getD j 0 = x at *
        generalize hy : U.getD j 0 = y at *
        clear hx hy
        go_wp2_with (go_at_call 42; refine (compare_at x y (-1) _ (fun _ => rfl) (fun h => by omega) (fun h => by omega)).mono ?_; rintro e w' ⟨rfl, rfl⟩)
        go_ret
        exact ⟨ret1 HE.out.symm, rfl⟩
      · have HE : Hid (T.getD j 0 = U.getD j 0) := he
        rw [he] at hb
        clear he
        generalize hy : U.getD j 0 = y at *
        have HY : Hid (U.getD j 0 = y) := hy
        clear hy
        go_wp2_with (go_at_call 42; refine (compare_at y y 0 _ (fun h => by omega) (fun h => by omega) (fun h => rfl)).mono ?_; rintro e w' ⟨rfl, rfl⟩)
        go_round
        case rel =>
          refine ⟨j + 1, by omega, by go_num, fun a ha => ?_⟩
          rcases Nat.lt_succ_iff_lt_or_eq.1 ha with ha | rfl
          · exact hall.out a ha
          · rw [HY.out]; exact HE.out
        case measure => simp [intOf]; omega
      · have HE : Hid (r = 1) := HR.out.trans (lex_more T U j (by rw [HT.out]; exact hlt) (by rw [HU.out]; exact hlt) hall.out he)
        generalize hx : T.getD j 0 = x at *
        generalize hy : U.getD j 0 = y at *
        clear hx hy
        go_wp2_with (go_at_call 42; refine (compare_at x y 1 _ (fun h => by omega) (fun _ => rfl) (fun h => by omega)).mono ?_; rintro e w' ⟨rfl, rfl⟩)
        go_ret
        exact ⟨ret1 HE.out.symm, rfl⟩
    · obtain rfl : j = n := by omega
      have HE : Hid (r = 0) := HR.out.trans (lex_none T U j HT.out HU.out hall.out)
      go_wp2
      go_ret
      exact ⟨ret1 HE.out.symm, rfl⟩
theorem words_at (ao bo : Option Addr) (n m c c' : Nat) (T U : List Int) (r : Int) (w : World) (h : RdZ w ao n c T) (k : RdZ w bo m c' U) (hr : r = cmp T U) :
    Calls Try.prog 27 #[.slice ao n c, .slice bo m c'] w fun e w' => e = .returned (.int .i64 r) ∧ w = w' := by
  have hcn := h.lecap
  have hcx := h.lemax
  have hcm := k.lecap
  have hmx := k.lemax
  have HT : Hid (T.length = n) := h.eqlen
  have HU : Hid (U.length = m) := k.eqlen
  have HR : Hid (r = cmp T U) := hr
  clear hr
  by_cases hnm : n = m
  · subst hnm
    have HE : Hid (r = lex T U) := by
      have := HR.out
      unfold cmp at this
      rwa [if_neg (by rw [HT.out, HU.out]; omega), if_neg (by rw [HT.out, HU.out]; omega)] at this
    go_enter Try.func27, Try.ntmps27
    go_wp2_with (go_at_call 43; refine (lex_walk _ _ _ _ _ T U r _ h k HE.out).mono ?_; rintro e w' ⟨rfl, rfl⟩)
    go_ret
    exact ⟨rfl, rfl⟩
  · have hnm' : ¬ (n : Int) = (m : Int) := by omega
    have HE : Hid (((n : Int) < (m : Int) → r = -1) ∧ ((m : Int) < (n : Int) → r = 1)) := by
      have := HR.out
      unfold cmp at this
      rw [HT.out, HU.out] at this
      constructor
      · intro q; rwa [if_pos (by omega)] at this
      · intro q; rwa [if_neg (by omega), if_pos (by omega)] at this
    have he : ((n : Int) != (m : Int)) = true := by simpa using hnm'
    go_enter Try.func27, Try.ntmps27
    go_wp2_with (go_at_call 42; refine (compare_at (n : Int) (m : Int) r _ HE.out.1 HE.out.2 (fun h => absurd h hnm')).mono ?_; rintro e w' ⟨rfl, rfl⟩)
    go_ret
    exact ⟨rfl, rfl⟩
end Go.Proofs.Ytkanjgphmafjbaa.Wo
