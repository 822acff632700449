/- Slices of integers that read as lists. -/
import Derived.Test.YtiapkblebbcfbaaGreatProg
import Derived.WalkKit
import Derived.WalkLawsBesides
import Derived.WalkSpells
import Derived.Laws.AppendOwnNone
import Derived.Laws.BitsAllLaws
import Derived.Deep.Light
import Derived.OneCell
import Derived.OwnWalk
import Derived.Laws.OwnMore
import Derived.RegionTactic
import Derived.ChangeAlike
import Derived.Deep.QuietTactic
import Derived.BigQuiet
namespace Go.Proofs.YtiapkblebbcfbaaGreat.Gl
open Go.RowKit
set_option linter.unusedVariables false

theorem ret1 {a c : Int} (h : a = c) : Ending.returned (.int .i64 a) = .returned (.int .i64 c) := by rw [h]
theorem retb {a c : Bool} (h : a = c) : Ending.returned (.bool a) = .returned (.bool c) := by rw [h]
theorem getD_of {zs : List Int} {i : Nat} (h : i < zs.length) : zs.getD i 0 = zs[i] := by
  rw [List.getD_eq_getElem?_getD, List.getElem?_eq_getElem h, Option.getD_some]
/-- the slice reads as the numbers zs -/
structure RdZ (w : World) (ao : Option Addr) (len cap : Nat) (zs : List Int) : Prop where
  eqlen : zs.length = len
  lecap : len ≤ cap
  lemax : cap ≤ 9223372036854775807
  isnil : ao = none → cap = 0
  cell : ∀ i, i < len → ∃ b off, ao = some ⟨b, off, none⟩ ∧ w.cell? ⟨b, off + i, none⟩ = some (.int .i64 (zs.getD i 0))
theorem RdZ.below {w w' : World} {ao : Option Addr} {len cap : Nat} {zs : List Int} (h : RdZ w ao len cap zs) {B : Nat} (hB : w.heap.size ≤ B) (hb : Below B w w') : RdZ w' ao len cap zs := by
  refine ⟨h.eqlen, h.lecap, h.lemax, h.isnil, fun i hi => ?_⟩
  obtain ⟨b, off, rfl, hc⟩ := h.cell i hi
  have hlt := World.block_lt_of_cell? _ _ hc
  exact ⟨b, off, rfl, (hb.cell (p := ⟨b, off + i, none⟩) (Nat.lt_of_lt_of_le hlt hB)).trans hc⟩
abbrev cellsZ (zs : List Int) : List Value := zs.map (Value.int .i64)
/-- a row just built reads as its numbers -/
theorem rdz_built (W : World) (zs : List Int) (n : Nat) (t : TypeId) (g : Nat) (hg : W.heap.size = g) (hn : zs.length = n) (hm : n ≤ 9223372036854775807) : RdZ (W.alloc (.cells (cellsZ zs).toArray t)) (some ⟨g, 0, none⟩) n n zs := by
  subst hg
  refine ⟨hn, Nat.le_refl _, hm, (fun h => nomatch h), (fun i hi => ⟨W.heap.size, 0, rfl, ?_⟩)⟩
  rw [Nat.zero_add]
  have hi' : i < zs.length := by omega
  simp [List.getElem?_eq_getElem hi']

/-- is r in one of the ranges? -/
def withinB (r : Int) : List Int → Bool
  | a :: b :: l => (decide (a ≤ r) && decide (r ≤ b)) || withinB r l
  | _ => false
theorem within_step (r : Int) (zs : List Int) (k : Nat) (h : k + 1 < zs.length) : withinB r (zs.drop k) = ((decide (zs.getD k 0 ≤ r) && decide (r ≤ zs.getD (k + 1) 0)) || withinB r (zs.drop (k + 2))) := by
  rw [List.drop_eq_getElem_cons (show k < zs.length by omega), List.drop_eq_getElem_cons (show k + 1 < zs.length by omega), withinB, getD_of (show k < zs.length by omega), getD_of (show k + 1 < zs.length by omega)]
set_option maxHeartbeats 1000000 in
theorem within_at (r : Int) (ao : Option Addr) (m cap : Nat) (zs : List Int) (w : World) (h : RdZ w ao (2 * m) cap zs) (hm : m ≤ 100) :
    Calls Tryz.prog 118 #[.int .i64 r, .slice ao (2 * m) cap] w fun e w' => e = .returned (.bool (withinB r zs)) ∧ w = w' := by
  have hcap := h.lecap
  have hmax := h.lemax
  have HL : Hid (zs.length = 2 * m) := h.eqlen
  go_enter Tryz.func118, Tryz.ntmps118
  go_wp2
  go_loop [5] (fun i => ∃ k : Nat, k ≤ m ∧ i = .int .i64 ((2 * k : Nat) : Int) ∧ Hid (withinB r zs = withinB r (zs.drop (2 * k)))) (fun i => 2 * m + 2 - (intOf i).toNat)
  case atStart => exact ⟨0, Nat.zero_le _, rfl, rfl⟩
  case round =>
    obtain ⟨k, hk, rfl, hinv⟩ := hrel
    by_cases hlt : k < m
    · obtain ⟨b, off, rfl, hc0⟩ := h.cell (2 * k) (by omega)
      obtain ⟨b', off', e', hc1⟩ := h.cell (2 * k + 1) (by omega)
      obtain ⟨rfl, rfl⟩ : b = b' ∧ off = off' := by simpa using e'
      have HS : Hid (withinB r zs = ((decide (zs.getD (2 * k) 0 ≤ r) && decide (r ≤ zs.getD (2 * k + 1) 0)) || withinB r (zs.drop (2 * (k + 1))))) := by
        show _ = _
        rw [hinv.out, within_step r zs (2 * k) (by rw [HL.out]; omega)]; rfl
      clear e' hinv
      generalize hx : zs.getD (2 * k) 0 = x at *
      generalize hy : zs.getD (2 * k + 1) 0 = y at *
      clear hx hy
      obtain ⟨q, hq⟩ : ∃ q, 2 * k = q := ⟨_, rfl⟩
      have HQ : Hid (2 * k = q) := hq
      have hq1 : q + 1 < 2 * m := by omega
      have hq2 : q ≤ 200 := by omega
      rw [hq] at hc0 hc1 ⊢
      clear hq
      by_cases h1 : x ≤ r
      · by_cases h2 : r ≤ y
        · have HE : Hid (withinB r zs = true) := by show _ = _; rw [HS.out]; simp [h1, h2]
          go_wp2
          go_ret
          exact ⟨retb HE.out.symm, rfl⟩
        · have HE : Hid (withinB r zs = withinB r (zs.drop (2 * (k + 1)))) := by show _ = _; rw [HS.out]; simp [h2]
          go_wp2
          go_round
          case rel => exact ⟨k + 1, by omega, congrArg (Value.int .i64) (by have := HQ.out; omega), HE⟩
          case measure => simp [intOf]; omega
      · have HE : Hid (withinB r zs = withinB r (zs.drop (2 * (k + 1)))) := by show _ = _; rw [HS.out]; simp [h1]
        go_wp2
        go_round
        case rel => exact ⟨k + 1, by omega, congrArg (Value.int .i64) (by have := HQ.out; omega), HE⟩
        case measure => simp [intOf]; omega
    · obtain rfl : k = m := by omega
      have HE : Hid (withinB r zs = false) := by
        show _ = _
        rw [hinv.out, List.drop_of_length_le (by rw [HL.out]; exact Nat.le_refl _)]; rfl
      go_wp2
      go_ret
      exact ⟨retb HE.out.symm, rfl⟩
abbrev starts : List Int := [65, 90, 97, 122, 95, 95, 913, 929, 931, 937, 945, 969]
abbrev rests : List Int := [48, 57, 8242, 8242, 8320, 8329]
def stB (r : Int) : Bool := withinB r starts
def reB (r : Int) : Bool := stB r || withinB r rests
theorem rstart_at (r : Int) (w : World) :
    Calls Tryz.prog 106 #[.int .i64 r] w fun e w' => e = .returned (.bool (stB r)) ∧ Below w.heap.size w w' := by
  go_enter Tryz.func106, Tryz.ntmps106
  go_wp2_with (go_at_call 118; refine (within_at r _ 6 _ starts _ (rdz_built w starts 12 _ _ rfl rfl (by omega)) (by omega)).mono ?_; rintro e w' ⟨rfl, rfl⟩)
  go_ret
  exact ⟨rfl, (Below.refl _ _).alloc (Nat.le_refl _) _⟩
end Go.Proofs.YtiapkblebbcfbaaGreat.Gl
