/- The document's wide numbers in memory: their digits read, trimmed. -/
import Derived.Test.YtkanjgphmafjbaaProg
import Derived.Test.YtkanjgphmafjbaaWideMath
import Derived.WalkKit
import Derived.WalkLawsBesides
import Derived.WalkSpells
import Derived.Deep.RegionHeld3
namespace Go.Proofs.Ytkanjgphmafjbaa.Wd
open Go.RowKit
set_option linter.unusedVariables false

/-- the slice .slice ao len cap reads as the digits ds -/
structure Dg (w : World) (ao : Option Addr) (len cap : Nat) (ds : List Nat) : Prop where
  eqlen : ds.length = len
  lecap : len ≤ cap
  lemax : cap ≤ 9223372036854775807
  lelen : len ≤ 1000000
  isnil : ao = none → cap = 0
  cell : ∀ i, i < len → ∃ b off, ao = some ⟨b, off, none⟩ ∧ w.cell? ⟨b, off + i, none⟩ = some (.int .u64 (dg ds i))
  small : Small ds

theorem Dg.below {w w' : World} {ao : Option Addr} {len cap : Nat} {ds : List Nat} (h : Dg w ao len cap ds) {B : Nat} (hB : w.heap.size ≤ B) (hb : Below B w w') : Dg w' ao len cap ds := by
  refine ⟨h.eqlen, h.lecap, h.lemax, h.lelen, h.isnil, fun i hi => ?_, h.small⟩
  obtain ⟨b, off, rfl, hc⟩ := h.cell i hi
  have hlt := World.block_lt_of_cell? _ _ hc
  exact ⟨b, off, rfl, (hb.cell (p := ⟨b, off + i, none⟩) (Nat.lt_of_lt_of_le hlt hB)).trans hc⟩

theorem digit_in (n : Bool) (ao : Option Addr) (len cap : Nat) (ds : List Nat) (i : Nat) (w : World) (h : Dg w ao len cap ds) (hi : i < len) :
    Calls Try.prog 48 #[.agg #[.bool n, .slice ao len cap], .int .i64 i] w fun e w' => e = .returned (.int .u64 (dg ds i)) ∧ w' = w.alloc (.cells #[.bool n, .slice ao len cap] 59) := by
  obtain ⟨b, off, rfl, hc⟩ := h.cell i hi
  have hlt := World.block_lt_of_cell? _ _ hc
  have hcap := h.lecap
  have hmax := h.lemax
  have hlen := h.lelen
  have hc' : (w.alloc (.cells #[.bool n, .slice (some ⟨b, off, none⟩) len cap] 59)).cell? ⟨b, off + i, none⟩ = some (.int .u64 (dg ds i)) := by
    rw [World.cell?_of_block (Below.heap_alloc _ _ _ hlt)]; exact hc
  have hd := dg_lt h.small i
  clear h hc
  go_enter Try.func48, Try.ntmps48
  go_wp2
  go_ret
  exact ⟨rfl, rfl⟩

theorem digit_out (n : Bool) (ao : Option Addr) (len cap : Nat) (i : Nat) (w : World) (hcap : len ≤ 1000000) (hi : len ≤ i) (hi' : i ≤ 1000000) :
    Calls Try.prog 48 #[.agg #[.bool n, .slice ao len cap], .int .i64 i] w fun e w' => e = .returned (.int .u64 0) ∧ w' = w.alloc (.cells #[.bool n, .slice ao len cap] 59) := by
  go_enter Try.func48, Try.ntmps48
  go_wp2
  go_ret
  exact ⟨rfl, rfl⟩

theorem digit_at (n : Bool) (ao : Option Addr) (len cap : Nat) (ds : List Nat) (i : Nat) (w : World) (h : Dg w ao len cap ds) (hi : i ≤ 1000000) :
    Calls Try.prog 48 #[.agg #[.bool n, .slice ao len cap], .int .i64 i] w fun e w' => e = .returned (.int .u64 (dg ds i)) ∧ w' = w.alloc (.cells #[.bool n, .slice ao len cap] 59) := by
  by_cases hl : i < len
  · exact digit_in n ao len cap ds i w h hl
  · rw [dg_none (by rw [h.eqlen]; omega)]
    have := h.lelen
    exact digit_out n ao len cap i w (by omega) (by omega) hi

/-- the slice of the first n digits, no room behind it -/
theorem Dg.cut {w : World} {ao : Option Addr} {len cap : Nat} {ds : List Nat} (h : Dg w ao len cap ds) {n : Nat} (hn : n ≤ len) : Dg w ao n n (ds.take n) := by
  refine ⟨by rw [List.length_take, h.eqlen]; omega, Nat.le_refl _, by have := h.lecap; have := h.lemax; omega, by have := h.lelen; omega, fun e => by have := h.isnil e; have := h.lecap; omega, fun i hi => ?_, small_take h.small n⟩
  obtain ⟨b, off, rfl, hc⟩ := h.cell i (by omega)
  exact ⟨b, off, rfl, by rw [dg_take hi]; exact hc⟩

set_option maxHeartbeats 1000000 in
theorem trimmed_at (ng : Bool) (ao : Option Addr) (len cap : Nat) (ds : List Nat) (w : World) (h : Dg w ao len cap ds) :
    Calls Try.prog 53 #[.agg #[.bool ng, .slice ao len cap]] w fun e w' => ∃ n, n ≤ len ∧ (∀ i, n ≤ i → dg ds i = 0) ∧ (0 < n → dg ds (n - 1) ≠ 0) ∧
      e = .returned (.agg #[.bool (ng && decide (0 < n)), .slice ao n n]) ∧ Below w.heap.size w w' := by
  have hcap := h.lecap
  have hmax := h.lemax
  have hlen := h.lelen
  go_enter Try.func53, Try.ntmps53
  go_wp2
  go_loop [3] (fun t => ∃ n : Nat, n ≤ len ∧ t = .int .i64 n ∧ Hid (∀ i, n ≤ i → dg ds i = 0)) (fun t => (intOf t).toNat)
  case atStart => exact ⟨len, Nat.le_refl _, rfl, fun i hi => dg_none (by rw [h.eqlen]; exact hi)⟩
  case round =>
    obtain ⟨n, hn, rfl, hz⟩ := hrel
    by_cases hp : 0 < n
    · obtain ⟨b, off, rfl, hc⟩ := h.cell (n - 1) (by omega)
      have hlt := World.block_lt_of_cell? _ _ hc
      have hc' : ((w.alloc (Obj.cells #[Value.bool ng, Value.slice (some ⟨b, off, none⟩) len cap] 59)).alloc (Obj.cells #[Value.bool false, Value.slice none 0 0] 59)).cell? ⟨b, off + (n - 1), none⟩ = some (.int .u64 (dg ds (n - 1))) := by
        rw [World.cell?_of_block (Below.heap_alloc _ _ _ (by rw [World.size_alloc]; exact Nat.lt_succ_of_lt hlt)), World.cell?_of_block (Below.heap_alloc _ _ _ hlt)]; exact hc
      have hd := dg_lt h.small (n - 1)
      have H := h
      clear hc
      by_cases h0 : dg ds (n - 1) = 0
      · have hb : ((dg ds (n - 1) : Int) == 0) = true := by simp [h0]
        have H0 : Hid (dg ds (n - 1) = 0) := h0
        clear h0
        go_wp2
        go_round
        case rel => exact ⟨n - 1, by omega, by go_num, fun i hi => by
          by_cases e : i = n - 1
          · subst e; exact H0.out
          · exact hz.out i (by omega)⟩
        case measure => simp [intOf]; omega
      · have hb : ((dg ds (n - 1) : Int) == 0) = false := by simp [h0]
        have H0 : Hid (¬ dg ds (n - 1) = 0) := h0
        clear h0
        go_wp2
        cases ng
        · go_region
          go_wp2
          exact bodyPost_ret (v := .agg #[.bool false, .slice (some ⟨b, off, none⟩) n n]) (by simp [results, Try.results53, go_sem]) rfl ⟨n, hn, hz.out, fun _ => H0.out, rfl, (((Below.refl _ _).alloc (Nat.le_refl _) _).alloc (by simp) _).drew⟩
        · go_region
          go_wp2
          exact bodyPost_ret (v := .agg #[.bool true, .slice (some ⟨b, off, none⟩) n n]) (by simp [results, Try.results53, go_sem]) rfl ⟨n, hn, hz.out, fun _ => H0.out, by simp [hp], (((Below.refl _ _).alloc (Nat.le_refl _) _).alloc (by simp) _).drew⟩
    · obtain rfl : n = 0 := by omega
      have hnone := h.isnil
      go_wp2
      rcases ao with _ | a
      · have hc0 := hnone rfl
        subst hc0
        obtain rfl : len = 0 := by omega
        clear hnone
        cases ng
        · go_region
          go_wp2
          exact bodyPost_ret (v := .agg #[.bool false, .slice none 0 0]) (by simp [results, Try.results53, go_sem]) rfl ⟨0, hn, hz.out, fun h => absurd h (by omega), rfl, (((Below.refl _ _).alloc (Nat.le_refl _) _).alloc (by simp) _).drew⟩
        · go_region
          go_wp2
          exact bodyPost_ret (v := .agg #[.bool false, .slice none 0 0]) (by simp [results, Try.results53, go_sem]) rfl ⟨0, hn, hz.out, fun h => absurd h (by omega), rfl, (((Below.refl _ _).alloc (Nat.le_refl _) _).alloc (by simp) _).drew⟩
      · clear hnone
        cases ng
        · go_region
          go_wp2
          exact bodyPost_ret (v := .agg #[.bool false, .slice (some a) 0 0]) (by simp [results, Try.results53, go_sem]) rfl ⟨0, hn, hz.out, fun h => absurd h (by omega), rfl, (((Below.refl _ _).alloc (Nat.le_refl _) _).alloc (by simp) _).drew⟩
        · go_region
          go_wp2
          exact bodyPost_ret (v := .agg #[.bool false, .slice (some a) 0 0]) (by simp [results, Try.results53, go_sem]) rfl ⟨0, hn, hz.out, fun h => absurd h (by omega), rfl, (((Below.refl _ _).alloc (Nat.le_refl _) _).alloc (by simp) _).drew⟩
end Go.Proofs.Ytkanjgphmafjbaa.Wd
