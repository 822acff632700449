/- The document's set: With. -/
import Derived.Test.YtholafecbmhhhaaSetD
namespace Go.Proofs.Ytholafecbmhhhaa.Dg
open Go.RowKit
set_option linter.unusedVariables false

def mix (how : Int) (a b : Bool) : Bool := if how = 0 then a || b else if how = 1 then a && b else a && !b
/-- the first k of them mixed -/
def mixed (how : Int) (T U : List Bool) : Nat → List Bool
  | 0 => T
  | k + 1 => (mixed how T U k).set k (mix how (T.getD k false) (U.getD k false))
theorem mixed_length (how : Int) (T U : List Bool) (k : Nat) : (mixed how T U k).length = T.length := by
  induction k with
  | zero => rfl
  | succ k ih => rw [mixed, List.length_set, ih]
theorem mixed_ge (how : Int) (T U : List Bool) (k a : Nat) (h : k ≤ a) : (mixed how T U k).getD a false = T.getD a false := by
  induction k with
  | zero => rfl
  | succ k ih => rw [mixed, List.getD_eq_getElem?_getD, List.getElem?_set_ne (by omega), ← List.getD_eq_getElem?_getD, ih (by omega)]
theorem mixed_lt (how : Int) (T U : List Bool) (k a : Nat) (h : a < k) (hk : k ≤ T.length) : (mixed how T U k).getD a false = mix how (T.getD a false) (U.getD a false) := by
  induction k with
  | zero => omega
  | succ k ih =>
    rw [mixed, List.getD_eq_getElem?_getD]
    by_cases e : k = a
    · subst e
      rw [List.getElem?_set_self (by rw [mixed_length]; omega), Option.getD_some]
    · rw [List.getElem?_set_ne e, ← List.getD_eq_getElem?_getD, ih (by omega) (by omega)]

theorem grown_set {w wr : World} {g j : Nat} {u : Value} (h : w.grownBy wr (some g)) : w.grownBy (wr.drew.setCell ⟨g, j, none⟩ u) (some g) :=
  ⟨h.os, h.tape, h.output, by simp [World.setCell]; exact h.size, fun k hk hne => (Below.heap_setCell _ _ _ _ (fun e => hne (by rw [e]))).trans (h.block k hk hne)⟩
theorem grown_drew {w wr : World} {row : Option Nat} (h : w.grownBy wr row) : w.grownBy wr.drew row := ⟨h.os, h.tape, h.output, h.size, h.block⟩
theorem grown_cell {w wr : World} {row : Option Nat} (h : w.grownBy wr row) {b o : Nat} {v : Value} (hc : w.cell? ⟨b, o, none⟩ = some v) (hne : some b ≠ row) : wr.cell? ⟨b, o, none⟩ = some v :=
  (World.cell?_of_block (a := ⟨b, o, none⟩) (h.block b (World.block_lt_of_cell? _ _ hc) hne)).trans hc

set_option maxHeartbeats 4000000 in
theorem with_at (sb so tb to' : Nat) (ao ao' : Option Addr) (n c c' : Nat) (how : Int) (T U : List Bool) (w : World) (h : Rs w ⟨sb, so, none⟩ ao n c T) (k : Rs w ⟨tb, to', none⟩ ao' n c' U)
    (hsne : some sb ≠ (Value.slice ao n c).ownBlock) (htne : some tb ≠ (Value.slice ao n c).ownBlock) :
    Calls Try.prog 17 #[.pointer (some ⟨sb, so, none⟩), .pointer (some ⟨tb, to', none⟩), .int .i64 how] w fun e w' => e = .returned (.int .i64 0) ∧ w'.ownsRow 0 4 1 (.slice ao n c) n (cellsB (mixed how T U n)) ∧ w.grownBy w' (Value.slice ao n c).ownBlock := by
  have hs := h.at_s
  have hn := h.small
  have ht := k.at_s
  have HT : Hid (T.length = n) := h.len
  have HR0 : Hid (w.drew.ownsRow 0 4 1 (.slice ao n c) n (cellsB T)) := h.row.drew
  have HU0 : Hid (∀ a, a < n → ∃ g', ao' = some ⟨g', 0, none⟩ ∧ w.drew.cell? ⟨g', a, none⟩ = some (.bool (U.getD a false))) := fun a ha => k.bit a ha
  have HG0 : Hid (w.grownBy w.drew (Value.slice ao n c).ownBlock) := ⟨rfl, rfl, rfl, Nat.le_refl _, fun _ _ _ => rfl⟩
  have HN1 : Hid (some sb ≠ (Value.slice ao n c).ownBlock) := hsne
  have HN2 : Hid (some tb ≠ (Value.slice ao n c).ownBlock) := htne
  clear hsne htne
  go_enter Try.func17, Try.ntmps17
  go_wp2
  go_region
  go_wp2
  go_loopw [7] (fun i wr => ∃ j : Nat, j ≤ n ∧ i = .int .i64 j ∧ Hid (wr.ownsRow 0 4 1 (.slice ao n c) n (cellsB (mixed how T U j))) ∧ Hid (∀ a, j ≤ a → a < n → ∃ g', ao' = some ⟨g', 0, none⟩ ∧ wr.cell? ⟨g', a, none⟩ = some (.bool (U.getD a false))) ∧ Hid (w.grownBy wr (Value.slice ao n c).ownBlock)) (fun i _ => n - (intOf i).toNat)
  case atStart => exact ⟨0, Nat.zero_le _, rfl, HR0.out, fun a _ ha => HU0.out a ha, HG0.out⟩
  case round =>
    obtain ⟨j, hj, rfl, hrow, hU, hG⟩ := hrel
    have hs' := grown_cell hG.out hs HN1.out
    have ht' := grown_cell hG.out ht HN2.out
    by_cases hlt : j < n
    · obtain ⟨g', rfl, hcy⟩ := hU.out j (Nat.le_refl _) hlt
      obtain ⟨g, rfl, hold⟩ := h.bit j hlt
      have hbx := ownsB_cell hrow.out j hlt
      have hfz := hrow.out.frozenAt j
      rw [mixed_ge how T U j j (Nat.le_refl _)] at hbx
      have HM : Hid (mixed how T U (j + 1) = (mixed how T U j).set j (mix how (T.getD j false) (U.getD j false))) := rfl
      have HO : Hid (∀ z, (wr.drew.setCell ⟨g, j, none⟩ (.bool z)).ownsRow 0 4 1 (.slice (some ⟨g, 0, none⟩) n c) n (cellsB ((mixed how T U j).set j z))) := fun z => by
        rw [← cells_setB]; exact (hrow.out.drew.stored j (.bool z)).1
      have HU' : Hid (∀ z a, j + 1 ≤ a → a < n → ∃ g'', (some ⟨g', 0, none⟩ : Option Addr) = some ⟨g'', 0, none⟩ ∧ (wr.drew.setCell ⟨g, j, none⟩ (.bool z)).cell? ⟨g'', a, none⟩ = some (.bool (U.getD a false))) := fun z a h1 h2 => by
        obtain ⟨g2, e2, h3⟩ := hU.out a (by omega) h2
        refine ⟨g2, e2, ?_⟩
        rw [World.cell?_setCell_other]
        · exact h3
        · intro e
          simp only [Addr.mk.injEq] at e
          omega
      have HG' : Hid (∀ z, w.grownBy (wr.drew.setCell ⟨g, j, none⟩ (.bool z)) (Value.slice (some ⟨g, 0, none⟩) n c).ownBlock) := fun z => grown_set hG.out
      obtain ⟨x, hx⟩ : ∃ x, T.getD j false = x := ⟨_, rfl⟩
      obtain ⟨y, hy⟩ : ∃ y, U.getD j false = y := ⟨_, rfl⟩
      rw [hx] at hbx HM
      rw [hy] at hcy HM
      clear hx hy hold hU hG hrow hs ht HR0 HU0 HG0
      by_cases h0 : how = 0
      · subst h0
        rw [show mix 0 x y = (x || y) from rfl] at HM
        cases x <;> cases y
        all_goals
          go_wp2
          go_region
          go_wp2
          go_roundw
          case rel => exact ⟨j + 1, by omega, by go_num, (by show World.ownsRow _ _ _ _ _ _ _; rw [HM.out]; exact HO.out _), (fun a h1 h2 => HU'.out _ a h1 h2), HG'.out _⟩
          case measure => simp [intOf]; omega
      · by_cases h1 : how = 1
        · subst h1
          rw [show mix 1 x y = (x && y) from rfl] at HM
          cases x <;> cases y
          all_goals
            go_wp2
            go_region
            go_wp2
            go_roundw
            case rel => exact ⟨j + 1, by omega, by go_num, (by show World.ownsRow _ _ _ _ _ _ _; rw [HM.out]; exact HO.out _), (fun a h1 h2 => HU'.out _ a h1 h2), HG'.out _⟩
            case measure => simp [intOf]; omega
        · rw [show mix how x y = (x && !y) from by rw [mix, if_neg h0, if_neg h1]] at HM
          cases x <;> cases y
          all_goals
            go_wp2
            go_region
            go_wp2
            go_roundw
            case rel => exact ⟨j + 1, by omega, by go_num, (by show World.ownsRow _ _ _ _ _ _ _; rw [HM.out]; exact HO.out _), (fun a h1 h2 => HU'.out _ a h1 h2), HG'.out _⟩
            case measure => simp [intOf]; omega
    · obtain rfl : j = n := by omega
      go_wp2
      go_ret
      exact ⟨rfl, hrow.out, hG.out⟩
end Go.Proofs.Ytholafecbmhhhaa.Dg
