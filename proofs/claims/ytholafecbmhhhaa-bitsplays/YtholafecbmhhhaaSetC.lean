/- The document's set: Same, Copy. -/
import Derived.Test.YtholafecbmhhhaaSetB
namespace Go.Proofs.Ytholafecbmhhhaa.Dg
open Go.RowKit
set_option linter.unusedVariables false

theorem list_eq_of_getD {T U : List Bool} (n : Nat) (hT : T.length = n) (hU : U.length = n) (h : ∀ j, j < n → T.getD j false = U.getD j false) : T = U := by
  apply List.ext_getElem (by rw [hT, hU])
  intro i h1 h2
  have := h i (by omega)
  rwa [List.getD_eq_getElem?_getD, List.getD_eq_getElem?_getD, List.getElem?_eq_getElem h1, List.getElem?_eq_getElem h2, Option.getD_some, Option.getD_some] at this

set_option maxHeartbeats 2000000 in
theorem same_at (sb so tb to' : Nat) (ao ao' : Option Addr) (n c m c' : Nat) (T U : List Bool) (r : Bool) (w : World) (h : Rs w ⟨sb, so, none⟩ ao n c T) (k : Rs w ⟨tb, to', none⟩ ao' m c' U) (hr : r = true ↔ T = U) :
    Calls Try.prog 25 #[.pointer (some ⟨sb, so, none⟩), .pointer (some ⟨tb, to', none⟩)] w fun e w' => e = .returned (.bool r) ∧ Below w.heap.size w w' := by
  have hs := h.at_s
  have hn := h.small
  have ht := k.at_s
  have hm := k.small
  have HT : Hid (T.length = n) := h.len
  have HU : Hid (U.length = m) := k.len
  have HR : Hid (r = true ↔ T = U) := hr
  have hsb : sb < w.heap.size := World.block_lt_of_cell? _ _ hs
  have htb : tb < w.heap.size := World.block_lt_of_cell? _ _ ht
  have hB0 := (Below.refl w.heap.size w).drew
  clear hr
  by_cases hnm : n = m
  · subst hnm
    go_enter Try.func25, Try.ntmps25
    go_wp2
    go_region
    go_wp2
    go_loopw [5] (fun i wr => ∃ j : Nat, j ≤ n ∧ i = .int .i64 j ∧ Hid (∀ a, a < j → T.getD a false = U.getD a false) ∧ Below w.heap.size w wr) (fun i _ => n - (intOf i).toNat)
    case atStart => exact ⟨0, Nat.zero_le _, rfl, fun a ha => absurd ha (by omega), hB0⟩
    case round =>
      obtain ⟨j, hj, rfl, hall, hnx⟩ := hrel
      have hs' : wr.cell? ⟨sb, so, none⟩ = some (.slice ao n c) := (hnx.cell hsb).trans hs
      have ht' : wr.cell? ⟨tb, to', none⟩ = some (.slice ao' n c') := (hnx.cell htb).trans ht
      by_cases hlt : j < n
      · obtain ⟨g, rfl, hb⟩ := h.bit j hlt
        have hb' : wr.cell? ⟨g, j, none⟩ = some (.bool (T.getD j false)) := (hnx.cell (World.block_lt_of_cell? _ _ hb)).trans hb
        obtain ⟨g', rfl, hc⟩ := k.bit j hlt
        have hc' : wr.cell? ⟨g', j, none⟩ = some (.bool (U.getD j false)) := (hnx.cell (World.block_lt_of_cell? _ _ hc)).trans hc
        have hnd := hnx.drew
        clear hb hc hs ht
        by_cases he : T.getD j false = U.getD j false
        · have HE : Hid (T.getD j false = U.getD j false) := he
          rw [he] at hb'
          clear he
          obtain ⟨y, hy⟩ : ∃ y, U.getD j false = y := ⟨_, rfl⟩
          rw [hy] at hb' hc'
          clear hy
          go_wp2
          go_region
          go_wp2
          go_roundw
          case rel =>
            refine ⟨j + 1, by omega, by go_num, fun a ha => ?_, hnd⟩
            rcases Nat.lt_succ_iff_lt_or_eq.1 ha with ha | rfl
            · exact hall.out a ha
            · exact HE.out
          case measure => simp [intOf]; omega
        · have HE : Hid (r = false) := by
            cases r with
            | false => rfl
            | true => exact absurd (by rw [HR.out.1 rfl]) he
          obtain ⟨x, hx⟩ : ∃ x, T.getD j false = x := ⟨_, rfl⟩
          obtain ⟨y, hy⟩ : ∃ y, U.getD j false = y := ⟨_, rfl⟩
          rw [hx] at hb' he
          rw [hy] at hc' he
          have hyx : y = !x := by revert he; cases x <;> cases y <;> simp
          subst hyx
          clear hx hy he
          cases x with
          | true =>
            rw [Bool.not_true] at hc'
            go_wp2
            go_region
            go_wp2
            go_ret
            exact ⟨congrArg (fun b : Bool => Ending.returned (.bool b)) HE.out.symm, hnd⟩
          | false =>
            rw [Bool.not_false] at hc'
            go_wp2
            go_region
            go_wp2
            go_ret
            exact ⟨congrArg (fun b : Bool => Ending.returned (.bool b)) HE.out.symm, hnd⟩
      · obtain rfl : j = n := by omega
        have HE : Hid (r = true) := HR.out.2 (list_eq_of_getD j HT.out HU.out hall.out)
        go_wp2
        go_ret
        exact ⟨congrArg (fun b : Bool => Ending.returned (.bool b)) HE.out.symm, hnx⟩
  · have HE : Hid (r = false) := by
      cases r with
      | false => rfl
      | true => exact absurd (by rw [← HT.out, HR.out.1 rfl, HU.out]) hnm
    have hnm' : ¬ (n : Int) = (m : Int) := by omega
    go_enter Try.func25, Try.ntmps25
    go_wp2
    go_region
    go_wp2
    go_ret
    exact ⟨congrArg (fun b : Bool => Ending.returned (.bool b)) HE.out.symm, hB0⟩
end Go.Proofs.Ytholafecbmhhhaa.Dg
