/- The document's set: New, List. -/
import Derived.Test.YtholafecbmhhhaaSetA
namespace Go.Proofs.Ytholafecbmhhhaa.Dg
open Go.RowKit
set_option linter.unusedVariables false

theorem made_falsesN (n : Nat) : (madeCells (Value.bool false).cells (n * 1)).toList = cellsB (List.replicate n false) := by
  show (madeCells #[Value.bool false] (n * 1)).toList = _
  rw [toList_madeCells_one]; simp [cellsB]

theorem made_place {w w2 : World} {v : Value} {t : TypeId} (hg : (w.alloc (.cells #[v] t)).grownBy w2 none) : w2.cell? ⟨w.heap.size, 0, none⟩ = some v ∧ w2.frozen? ⟨w.heap.size, 0, none⟩ = false := by
  have hb := hg.block w.heap.size (by simp) (by simp)
  have ha : (w.alloc (.cells #[v] t)).heap[w.heap.size]? = some (.cells #[v] t (0, 0)) := heap_alloc_new _ _
  exact ⟨(World.cell?_of_block (a := ⟨w.heap.size, 0, none⟩) hb).trans (by simp), frozen_of_row w2 w.heap.size 0 _ _ (hb.trans ha)⟩

set_option maxHeartbeats 1000000 in
theorem new_in (n : Nat) (w : World) (hn : n ≤ 4096) :
    Calls Try.prog 11 #[.int .i64 n] w fun e w' => ∃ g, e = .returned (.tuple #[.agg #[.slice (some ⟨g, 0, none⟩) n n], .bool true]) ∧ w.heap.size ≤ g ∧ w'.ownsRow g 4 1 (.slice (some ⟨g, 0, none⟩) n n) n (cellsB (List.replicate n false)) ∧ Below w.heap.size w w' := by
  obtain ⟨ib, hb, hb0, hb1, hb2⟩ := info_parts Try.infoBool
  go_enter Try.func11, Try.ntmps11
  go_wp2_with (at_make; refine wpList_make_full _ rfl _ _ 33 rfl (w.heap.size + 1) 4 ib (.bool false) 1 Try.underlying33 hb hb0 hb1 _ _ _ _ n rfl rfl rfl rfl (by rw [hb2]; omega) (by unfold maxLen; omega) (by simp) ?_; intro w2 hown2 hg2; rw [made_falsesN, World.size_alloc] at hown2; obtain ⟨hk0, hkf⟩ := made_place hg2)
  have hkc := World.cell?_setCell_same _ _ (.slice (some ⟨w.heap.size + 1, 0, none⟩) n n) hk0
  have hB2 : Below w.heap.size w w2 := ((Below.refl _ _).alloc (Nat.le_refl _) _).grown hg2 (by simp) (fun k h => by cases h)
  exact bodyPost_ret (v := .tuple #[.agg #[.slice (some ⟨w.heap.size + 1, 0, none⟩) n n], .bool true]) (by simp [results, Try.results11, go_sem, hkc]) rfl
    ⟨w.heap.size + 1, rfl, by omega, ownsRow_setCell_other hown2 (by simp [Value.ownBlock]) _, hB2.setCell (Nat.le_refl _) _⟩
theorem new_out (x : Int) (w : World) (hx : ¬ (0 ≤ x ∧ x ≤ 4096)) :
    Calls Try.prog 11 #[.int .i64 x] w fun e w' => e = .returned (.tuple #[.agg #[.slice none 0 0], .bool false]) ∧ Below w.heap.size w w' := by
  by_cases h0 : x < 0
  · clear hx
    go_enter Try.func11, Try.ntmps11
    go_wp2
    exact bodyPost_ret (v := .tuple #[.agg #[.slice none 0 0], .bool false]) (by simp [results, Try.results11, go_sem]) rfl ⟨rfl, (Below.refl _ _).alloc (Nat.le_refl _) _⟩
  · have h1 : 4096 < x := by omega
    clear hx
    go_enter Try.func11, Try.ntmps11
    go_wp2
    exact bodyPost_ret (v := .tuple #[.agg #[.slice none 0 0], .bool false]) (by simp [results, Try.results11, go_sem]) rfl ⟨rfl, (Below.refl _ _).alloc (Nat.le_refl _) _⟩

/-- the numbers below k that are in the set, rising -/
def lst (T : List Bool) : Nat → List Nat
  | 0 => []
  | k + 1 => if T.getD k false then lst T k ++ [k] else lst T k
theorem lst_length (T : List Bool) (k : Nat) : (lst T k).length ≤ k := by
  induction k with
  | zero => exact Nat.le_refl _
  | succ k ih =>
    rw [lst]
    by_cases h : T.getD k false = true
    · rw [if_pos h, List.length_append, List.length_singleton]; omega
    · rw [if_neg h]; omega

set_option maxHeartbeats 1000000 in
theorem list_at (sb so : Nat) (ao : Option Addr) (n c : Nat) (T : List Bool) (w : World) (h : Rs w ⟨sb, so, none⟩ ao n c T) :
    Calls Try.prog 46 #[.pointer (some ⟨sb, so, none⟩)] w fun e w' => ∃ v, e = .returned v ∧ w'.ownsRow w.heap.size 3 1 v (lst T n).length (cellsI (lst T n)) ∧ Below w.heap.size w w' := by
  have hs := h.at_s
  have hn := h.small
  have hsb : sb < w.heap.size := World.block_lt_of_cell? _ _ hs
  go_enter Try.func46, Try.ntmps46
  go_wp2
  go_loopw [3, 4] (fun v i wr => ∃ k : Nat, k ≤ n ∧ i = .int .i64 k ∧ wr.ownsRow w.heap.size 3 1 v (lst T k).length (cellsI (lst T k)) ∧ Below w.heap.size w wr) (fun _ i _ => n - (intOf i).toNat)
  case atStart => exact ⟨0, Nat.zero_le _, rfl, World.ownsRow_nil _ _ _ _, Below.refl _ _⟩
  case round =>
    obtain ⟨k, hk, rfl, hown, hnx⟩ := hrel
    have hs' : wr.cell? ⟨sb, so, none⟩ = some (.slice ao n c) := (hnx.cell hsb).trans hs
    by_cases hlt : k < n
    · obtain ⟨g, rfl, hb⟩ := h.bit k hlt
      have hb' : wr.cell? ⟨g, k, none⟩ = some (.bool (T.getD k false)) := (hnx.cell (World.block_lt_of_cell? _ _ hb)).trans hb
      have hll := lst_length T k
      cases hin : T.getD k false with
      | true =>
        rw [hin] at hb'
        have HS : Hid (lst T (k + 1) = lst T k ++ [k]) := by show _ = _; rw [lst, if_pos hin]
        clear hin hb hs
        obtain ⟨O, hO⟩ : ∃ O, lst T k = O := ⟨_, rfl⟩
        rw [hO] at hown HS hll
        clear hO
        go_wp2_with (at_builtin; refine wp_pushI w _ w.heap.size w.heap.size rfl (.tmp 21) (.tmp 23) rfl _ O.length O rfl wr.heap.size k _ rfl (hown.alloc _) (cell_new1 _ _ _) rfl (size_new1 hnx.size _) (by omega) (hnx.alloc hnx.size _) (Nat.le_refl _) ?_; intro v' w2 hown' hnx')
        go_roundw
        case rel =>
          go_light
          exact ⟨k + 1, by omega, by go_num, by rw [HS.out, List.length_append]; exact hown', hnx'⟩
        case measure => simp [intOf]; omega
      | false =>
        rw [hin] at hb'
        have HS : Hid (lst T (k + 1) = lst T k) := by show _ = _; rw [lst, hin]; rfl
        clear hin hb hs
        go_wp2
        go_roundw
        case rel => exact ⟨k + 1, by omega, by go_num, by rw [HS.out]; exact hown, hnx⟩
        case measure => simp [intOf]; omega
    · obtain rfl : k = n := by omega
      go_wp2
      go_ret
      exact ⟨_, rfl, hown, hnx⟩
end Go.Proofs.Ytholafecbmhhhaa.Dg
