/- The document's digits and letters: places, Gather. -/
import Derived.Test.YtholafecbmhhhaaDigC
namespace Go.Proofs.Ytholafecbmhhhaa.Dg
open Go.RowKit
set_option linter.unusedVariables false

/-- the slice reads as the numbers zs -/
structure RdZ (w : World) (ao : Option Addr) (len cap : Nat) (zs : List Int) : Prop where
  eqlen : zs.length = len
  lecap : len ≤ cap
  lemax : cap ≤ 9223372036854775807
  isnil : ao = none → cap = 0
  cell : ∀ i, i < len → ∃ b off, ao = some ⟨b, off, none⟩ ∧ w.cell? ⟨b, off + i, none⟩ = some (.int .i64 (zs.getD i 0))
theorem RdZ.below {w w' : World} {ao : Option Addr} {len cap : Nat} {zs : List Int} (h : RdZ w ao len cap zs) {B : Nat} (hB : w.heap.size ≤ B) (hb : Below B w w') : RdZ w' ao len cap zs := by
  refine ⟨h.eqlen, h.lecap, h.lemax, h.isnil, fun i hi => ?_⟩
  obtain ⟨b, off, rfl, hc⟩ := h.cell i hi
  have hlt := World.block_lt_of_cell? _ _ hc
  exact ⟨b, off, rfl, (hb.cell (p := ⟨b, off + i, none⟩) (Nat.lt_of_lt_of_le hlt hB)).trans hc⟩

/-- the places are right -/
def Fit (zs : List Int) (len : Nat) : Prop := len ≤ 6 ∧ ∀ i, i < len → 0 ≤ zs.getD i 0 ∧ zs.getD i 0 < 6

set_option maxHeartbeats 1000000 in
theorem places_at (r : Bool) (ao : Option Addr) (len cap : Nat) (zs : List Int) (w : World) (h : RdZ w ao len cap zs) (hr : r = true ↔ Fit zs len) :
    Calls Try.prog 56 #[.slice ao len cap] w fun e w' => e = .returned (.bool r) ∧ w = w' := by
  have hcap := h.lecap
  have hmax := h.lemax
  have HR : Hid (r = true ↔ Fit zs len) := hr
  clear hr
  by_cases h6 : len ≤ 6
  · go_enter Try.func56, Try.ntmps56
    go_wp2
    go_loop [3] (fun i => ∃ k : Nat, k ≤ len ∧ i = .int .i64 k ∧ Hid (∀ j, j < k → 0 ≤ zs.getD j 0 ∧ zs.getD j 0 < 6)) (fun i => len - (intOf i).toNat)
    case atStart => exact ⟨0, Nat.zero_le _, rfl, fun j hj => absurd hj (by omega)⟩
    case round =>
      obtain ⟨k, hk, rfl, hall⟩ := hrel
      by_cases hlt : k < len
      · obtain ⟨b, off, rfl, hc⟩ := h.cell k hlt
        by_cases hf : 0 ≤ zs.getD k 0 ∧ zs.getD k 0 < 6
        · have HF : Hid (0 ≤ zs.getD k 0 ∧ zs.getD k 0 < 6) := hf
          clear hf
          go_wp2_with (go_at_call 50; refine (below_at _ 6 true _ (decide_eq_true HF.out)).mono ?_; rintro e w' ⟨rfl, rfl⟩)
          go_round
          case rel =>
            refine ⟨k + 1, by omega, by go_num, fun j hj => ?_⟩
            rcases Nat.lt_succ_iff_lt_or_eq.1 hj with hj | rfl
            · exact hall.out j hj
            · exact HF.out
          case measure => simp [intOf]; omega
        · have HF : Hid (¬ (0 ≤ zs.getD k 0 ∧ zs.getD k 0 < 6)) := hf
          clear hf
          have HE : Hid (r = false) := by
            cases r with
            | false => rfl
            | true => exact absurd ((HR.out.1 rfl).2 k hlt) HF.out
          go_wp2_with (go_at_call 50; refine (below_at _ 6 false _ (decide_eq_false HF.out)).mono ?_; rintro e w' ⟨rfl, rfl⟩)
          go_ret
          exact ⟨congrArg (fun b : Bool => Ending.returned (.bool b)) HE.out.symm, rfl⟩
      · obtain rfl : k = len := by omega
        have HE : Hid (r = true) := HR.out.2 ⟨h6, hall.out⟩
        go_wp2
        go_ret
        exact ⟨congrArg (fun b : Bool => Ending.returned (.bool b)) HE.out.symm, rfl⟩
  · have HE : Hid (r = false) := by
      cases r with
      | false => rfl
      | true => exact absurd (HR.out.1 rfl).1 h6
    go_enter Try.func56, Try.ntmps56
    go_wp2
    go_ret
    exact ⟨congrArg (fun b : Bool => Ending.returned (.bool b)) HE.out.symm, rfl⟩

/-- the digits at these places -/
def gath (L : Nat) (zs : List Int) : List Nat := zs.map fun z => L / 2 ^ z.toNat % 2
theorem gath_length (L : Nat) (zs : List Int) : (gath L zs).length = zs.length := by simp [gath]
theorem gath_bit (L : Nat) (zs : List Int) : ∀ d ∈ gath L zs, d ≤ 1 := by
  intro d hd
  obtain ⟨z, _, rfl⟩ := List.mem_map.1 hd
  omega
theorem gath_take (L : Nat) (zs : List Int) (k : Nat) (h : k < zs.length) : gath L (zs.take (k + 1)) = gath L (zs.take k) ++ [L / 2 ^ (zs.getD k 0).toNat % 2] := by
  unfold gath
  rw [List.take_succ_eq_append_getElem h, List.map_append, List.map_singleton, List.getD_eq_getElem?_getD, List.getElem?_eq_getElem h, Option.getD_some]

set_option maxHeartbeats 1000000 in
theorem gather_in (L : Nat) (ao : Option Addr) (len cap : Nat) (zs : List Int) (w : World) (h : RdZ w ao len cap zs) (hL : L < 64) (hf : Fit zs len) :
    Calls Try.prog 40 #[.int .i64 L, .slice ao len cap] w fun e w' => e = .returned (.tuple #[.int .i64 (num (gath L zs) : Nat), .int .i64 0]) ∧ Below w.heap.size w w' := by
  have hcap := h.lecap
  have hmax := h.lemax
  have h6 := hf.1
  have HF : Hid (Fit zs len) := hf
  have HL : Hid (zs.length = len) := h.eqlen
  clear hf
  go_enter Try.func40, Try.ntmps40
  go_wp2_with (first
    | (go_at_call 56; refine (places_at true _ _ _ zs _ h ⟨fun _ => HF.out, fun _ => rfl⟩).mono ?_; rintro e w' ⟨rfl, rfl⟩)
    | (go_at_call 50; refine (below_at _ _ true _ (decide_eq_true ⟨by omega, by omega⟩)).mono ?_; rintro e w' ⟨rfl, rfl⟩)
    | (go_at_call 51; refine (digits_row L 6 _ (by omega) (by omega) (by omega)).mono ?_; rintro e w1 ⟨b, off, cr, rfl, hcr, hcm, hc, hbb, hB⟩))
  go_loopw [7, 8] (fun v i wr => ∃ k : Nat, k ≤ len ∧ i = .int .i64 k ∧ wr.ownsRow w1.heap.size 3 1 v k (cellsI (gath L (zs.take k))) ∧ Below w1.heap.size w1 wr) (fun _ i _ => len - (intOf i).toNat)
  case atStart => exact ⟨0, Nat.zero_le _, rfl, World.ownsRow_nil _ _ _ _, Below.refl _ _⟩
  case round =>
    obtain ⟨k, hk, rfl, hown, hnx⟩ := hrel
    by_cases hlt : k < len
    · have hz := HF.out.2 k hlt
      obtain ⟨lb, lo, rfl, hlc⟩ := ((h.below (Nat.le_refl _) hB).below (Nat.le_refl _) hnx).cell k hlt
      have HG : Hid (gath L (zs.take (k + 1)) = gath L (zs.take k) ++ [L / 2 ^ (zs.getD k 0).toNat % 2]) := gath_take L zs k (by rw [HL.out]; exact hlt)
      obtain ⟨p, hp⟩ : ∃ p : Nat, zs.getD k 0 = p := ⟨(zs.getD k 0).toNat, by omega⟩
      rw [hp] at hlc hz HG
      rw [Int.toNat_natCast] at HG
      have hp6 : p < 6 := by omega
      have hdc := hc.out p hp6
      have hdc' := (hnx.cell (World.block_lt_of_cell? _ _ hdc)).trans hdc
      obtain ⟨q, hq⟩ : ∃ q : Nat, L / 2 ^ p % 2 = q := ⟨_, rfl⟩
      rw [hq] at hdc' HG
      clear hdc hq hp hz
      go_wp2_with (at_builtin; refine wp_pushI w1 _ w1.heap.size w1.heap.size rfl (.tmp 25) (.tmp 33) rfl _ k (gath L (zs.take k)) rfl wr.heap.size q _ rfl (hown.alloc _) (cell_new1 _ _ _) rfl (size_new1 hnx.size _) (by omega) (hnx.alloc hnx.size _) (Nat.le_refl _) ?_; intro v' w2 hown' hnx')
      go_roundw
      case rel =>
        go_light
        exact ⟨k + 1, by omega, by go_num, by rw [HG.out]; exact hown', hnx'⟩
      case measure => simp [intOf]; omega
    · obtain rfl : k = len := by omega
      rw [List.take_of_length_le (by rw [HL.out]; exact Nat.le_refl _)] at hown
      obtain ⟨ro, rc, rfl, hR⟩ := rd_of_owns hown
      have HBt : Hid (∀ d ∈ gath L zs, d ≤ 1) := gath_bit L zs
      go_wp2_with (go_at_call 52; refine (letter_at _ _ _ _ _ hR (by omega) HBt.out).mono ?_; rintro e w' ⟨rfl, rfl⟩)
      go_ret2
      exact ⟨rfl, hB.trans (hnx.mono hB.size)⟩
theorem gather_no (x : Int) (ao : Option Addr) (len cap : Nat) (zs : List Int) (w : World) (h : RdZ w ao len cap zs) (hn : ¬ (Fit zs len ∧ (0 ≤ x ∧ x < 64))) :
    Calls Try.prog 40 #[.int .i64 x, .slice ao len cap] w fun e w' => e = .returned (.tuple #[.int .i64 0, .int .i64 2]) ∧ w = w' := by
  by_cases hf : Fit zs len
  · have H1 : Hid (¬ (0 ≤ x ∧ x < 64)) := fun h1 => hn ⟨hf, h1⟩
    have HF : Hid (Fit zs len) := hf
    clear hf hn
    go_enter Try.func40, Try.ntmps40
    go_wp2_with (first
      | (go_at_call 56; refine (places_at true _ _ _ zs _ h ⟨fun _ => HF.out, fun _ => rfl⟩).mono ?_; rintro e w' ⟨rfl, rfl⟩)
      | (go_at_call 50; refine (below_at _ _ false _ (decide_eq_false H1.out)).mono ?_; rintro e w' ⟨rfl, rfl⟩))
    go_ret2
    exact ⟨rfl, rfl⟩
  · have HF : Hid (false = true ↔ Fit zs len) := ⟨fun e => absurd e Bool.false_ne_true, fun e => absurd e hf⟩
    clear hf hn
    go_enter Try.func40, Try.ntmps40
    go_wp2_with (go_at_call 56; refine (places_at false _ _ _ zs _ h HF.out).mono ?_; rintro e w' ⟨rfl, rfl⟩)
    go_ret2
    exact ⟨rfl, rfl⟩
end Go.Proofs.Ytholafecbmhhhaa.Dg
