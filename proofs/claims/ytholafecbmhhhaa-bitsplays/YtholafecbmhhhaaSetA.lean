/- The document's set: New, Turn, Has. -/
import Derived.Test.YtholafecbmhhhaaDigE
namespace Go.Proofs.Ytholafecbmhhhaa.Dg
open Go.RowKit
set_option linter.unusedVariables false

/-- the set at the address s: its row, of these bools -/
structure Rs (w : World) (s : Addr) (ao : Option Addr) (n c : Nat) (T : List Bool) : Prop where
  at_s : w.cell? s = some (.slice ao n c)
  row : w.ownsRow 0 4 1 (.slice ao n c) n (cellsB T)
  small : n ≤ 4096
theorem Rs.len {w : World} {s : Addr} {ao : Option Addr} {n c : Nat} {T : List Bool} (h : Rs w s ao n c T) : T.length = n := by
  have := h.row.1
  simpa using this
theorem Rs.bit {w : World} {s : Addr} {ao : Option Addr} {n c : Nat} {T : List Bool} (h : Rs w s ao n c T) (i : Nat) (hi : i < n) : ∃ g, ao = some ⟨g, 0, none⟩ ∧ w.cell? ⟨g, i, none⟩ = some (.bool (T.getD i false)) := by
  have hr := h.row
  rcases hr.2 with ⟨_, hn⟩ | ⟨g, cap, cur, hv, _⟩
  · omega
  · simp only [Value.slice.injEq, true_and] at hv
    obtain ⟨rfl, rfl⟩ := hv
    exact ⟨g, rfl, ownsB_cell hr i hi⟩

set_option maxHeartbeats 1000000 in
theorem has_at (sb so : Nat) (ao : Option Addr) (n c : Nat) (T : List Bool) (x : Int) (w : World) (h : Rs w ⟨sb, so, none⟩ ao n c T) :
    Calls Try.prog 23 #[.pointer (some ⟨sb, so, none⟩), .int .i64 x] w fun e w' => e = .returned (.bool (decide (0 ≤ x) && T.getD x.toNat false)) ∧ w = w' := by
  have hs := h.at_s
  have hn := h.small
  by_cases h0 : 0 ≤ x
  · obtain ⟨i, rfl⟩ : ∃ i : Nat, x = i := ⟨x.toNat, by omega⟩
    by_cases h1 : i < n
    · obtain ⟨g, rfl, hb⟩ := h.bit i h1
      go_enter Try.func23, Try.ntmps23
      go_wp2
      go_ret
      exact ⟨by simp, rfl⟩
    · have ho : T.getD i false = false := by rw [List.getD_eq_getElem?_getD, List.getElem?_eq_none (by rw [h.len]; omega), Option.getD_none]
      have HO : Hid (T.getD i false = false) := ho
      clear ho
      go_enter Try.func23, Try.ntmps23
      go_wp2
      go_ret
      exact ⟨by simp only [Int.toNat_natCast, HO.out, Bool.and_false]; rfl, rfl⟩
  · go_enter Try.func23, Try.ntmps23
    go_wp2
    go_ret
    exact ⟨by rw [decide_eq_false (show ¬ 0 ≤ x by omega)]; rfl, rfl⟩

theorem cells_setB (T : List Bool) (i : Nat) (b : Bool) : (cellsB T).set i (.bool b) = cellsB (T.set i b) := by unfold cellsB; rw [List.map_set]
theorem Rs.turned {w : World} {s : Addr} {g n c : Nat} {T : List Bool} (h : Rs w s (some ⟨g, 0, none⟩) n c T) (hne : s.block ≠ g) (i : Nat) (b : Bool) : Rs (w.setCell ⟨g, i, none⟩ (.bool b)) s (some ⟨g, 0, none⟩) n c (T.set i b) := by
  refine ⟨?_, ?_, h.small⟩
  · rw [World.cell?_of_block (Below.heap_setCell _ _ _ _ (fun e => hne e))]; exact h.at_s
  · rw [← cells_setB]; exact (h.row.stored i (.bool b)).1
theorem turn_in (sb so g n c i : Nat) (T : List Bool) (b : Bool) (w : World) (h : Rs w ⟨sb, so, none⟩ (some ⟨g, 0, none⟩) n c T) (hi : i < n) :
    Calls Try.prog 14 #[.pointer (some ⟨sb, so, none⟩), .int .i64 i, .bool b] w fun e w' => e = .returned (.int .i64 0) ∧ w.setCell ⟨g, i, none⟩ (.bool b) = w' := by
  have hs := h.at_s
  have hn := h.small
  have hb := ownsB_cell h.row i hi
  have hf := h.row.frozenAt i
  go_enter Try.func14, Try.ntmps14
  go_wp2
  go_ret
  exact ⟨rfl, rfl⟩
theorem turn_out (sb so : Nat) (ao : Option Addr) (n c : Nat) (x : Int) (T : List Bool) (b : Bool) (w : World) (h : Rs w ⟨sb, so, none⟩ ao n c T) (hx : ¬ (0 ≤ x ∧ x < n)) :
    Calls Try.prog 14 #[.pointer (some ⟨sb, so, none⟩), .int .i64 x, .bool b] w fun e w' => e = .returned (.int .i64 2) ∧ w = w' := by
  have hs := h.at_s
  have hn := h.small
  by_cases h0 : x < 0
  · clear hx
    go_enter Try.func14, Try.ntmps14
    go_wp2
    go_ret
    exact ⟨rfl, rfl⟩
  · have h1 : (n : Int) ≤ x := by omega
    clear hx
    go_enter Try.func14, Try.ntmps14
    go_wp2
    go_ret
    exact ⟨rfl, rfl⟩
end Go.Proofs.Ytholafecbmhhhaa.Dg
