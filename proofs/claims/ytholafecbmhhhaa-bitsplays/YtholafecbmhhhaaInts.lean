/- Two lists of the same numbers: the law's own ints. And a number brought to 0, 1, 2: which. -/
import Derived.Test.YtholafecbmhhhaaDigD
import Derived.RegionTactic
import Derived.ChangeAlike
namespace Go.Proofs.Ytholafecbmhhhaa.Dg
open Go.RowKit
set_option linter.unusedVariables false

theorem ints_eq_of_getD {T U : List Int} (n : Nat) (hT : T.length = n) (hU : U.length = n) (h : ∀ j, j < n → T.getD j 0 = U.getD j 0) : T = U := by
  apply List.ext_getElem (by rw [hT, hU])
  intro i h1 h2
  have := h i (by omega)
  rwa [List.getD_eq_getElem?_getD, List.getD_eq_getElem?_getD, List.getElem?_eq_getElem h1, List.getElem?_eq_getElem h2, Option.getD_some, Option.getD_some] at this

set_option maxHeartbeats 2000000 in
theorem ints_at (ao ao' : Option Addr) (n c m c' : Nat) (T U : List Int) (r : Bool) (w : World) (h : RdZ w ao n c T) (k : RdZ w ao' m c' U) (hr : r = true ↔ T = U) :
    Calls Try.prog 30 #[.slice ao n c, .slice ao' m c'] w fun e w' => e = .returned (.bool r) ∧ Below w.heap.size w w' := by
  have hcn := h.lecap
  have hcx := h.lemax
  have hcm := k.lecap
  have hmx := k.lemax
  have HT : Hid (T.length = n) := h.eqlen
  have HU : Hid (U.length = m) := k.eqlen
  have HR : Hid (r = true ↔ T = U) := hr
  clear hr
  by_cases hnm : n = m
  · subst hnm
    go_enter Try.func30, Try.ntmps30
    go_wp2
    go_loopw [13] (fun i wr => ∃ j : Nat, j ≤ n ∧ i = .int .i64 j ∧ Hid (∀ a, a < j → T.getD a 0 = U.getD a 0) ∧ Below w.heap.size w wr) (fun i _ => n - (intOf i).toNat)
    case atStart => exact ⟨0, Nat.zero_le _, rfl, fun a ha => absurd ha (by omega), Below.refl _ _⟩
    case round =>
      obtain ⟨j, hj, rfl, hall, hnx⟩ := hrel
      by_cases hlt : j < n
      · obtain ⟨g, o, rfl, hb⟩ := h.cell j hlt
        obtain ⟨g', o', rfl, hc⟩ := k.cell j hlt
        have hb' := (hnx.cell (World.block_lt_of_cell? _ _ hb)).trans hb
        have hc' := (hnx.cell (World.block_lt_of_cell? _ _ hc)).trans hc
        have hnd := hnx.drew
        clear hb hc
        by_cases he : T.getD j 0 = U.getD j 0
        · have HE : Hid (T.getD j 0 = U.getD j 0) := he
          rw [he] at hb'
          clear he
          obtain ⟨y, hy⟩ : ∃ y, U.getD j 0 = y := ⟨_, rfl⟩
          rw [hy] at hb' hc'
          clear hy
          go_wp2
          go_region
          go_wp2
          go_roundw
          case rel =>
            refine ⟨j + 1, by omega, by go_num, fun a ha => ?_, hnd⟩
            rcases Nat.lt_succ_iff_lt_or_eq.1 ha with ha | rfl
            · exact hall.out a ha
            · exact HE.out
          case measure => simp [intOf]; omega
        · have HE : Hid (r = false) := by
            cases r with
            | false => rfl
            | true => exact absurd (by rw [HR.out.1 rfl]) he
          obtain ⟨x, hx⟩ : ∃ x, T.getD j 0 = x := ⟨_, rfl⟩
          obtain ⟨y, hy⟩ : ∃ y, U.getD j 0 = y := ⟨_, rfl⟩
          rw [hx] at hb' he
          rw [hy] at hc' he
          clear hx hy
          go_wp2
          go_region
          go_wp2
          go_ret
          exact ⟨congrArg (fun b : Bool => Ending.returned (.bool b)) HE.out.symm, hnd⟩
      · obtain rfl : j = n := by omega
        have HE : Hid (r = true) := HR.out.2 (ints_eq_of_getD j HT.out HU.out hall.out)
        go_wp2
        go_ret
        exact ⟨congrArg (fun b : Bool => Ending.returned (.bool b)) HE.out.symm, hnx⟩
  · have HE : Hid (r = false) := by
      cases r with
      | false => rfl
      | true => exact absurd (by rw [← HT.out, HR.out.1 rfl, HU.out]) hnm
    have hnm' : ¬ (n : Int) = (m : Int) := by omega
    have hB0 := Below.refl w.heap.size w
    go_enter Try.func30, Try.ntmps30
    go_wp2
    go_ret
    exact ⟨congrArg (fun b : Bool => Ending.returned (.bool b)) HE.out.symm, hB0⟩

theorem which_at (x : Int) (w : World) :
    Calls Try.prog 12 #[.int .i64 x] w fun e w' => ∃ k : Nat, k < 3 ∧ e = .returned (.int .i64 k) ∧ w = w' := by
  have h1 : -3 < Int.tmod x 3 := by have := Int.lt_tmod_of_pos x (show (0 : Int) < 3 by omega); omega
  have h2 : Int.tmod x 3 < 3 := Int.tmod_lt_of_pos x (by omega)
  go_enter Try.func12, Try.ntmps12
  go_wp2
  go_ret
  exact ⟨((x.tmod 3 + 3) % 3).toNat, by omega, congrArg (fun n : Int => Ending.returned (.int .i64 n)) (by omega), rfl⟩
end Go.Proofs.Ytholafecbmhhhaa.Dg
