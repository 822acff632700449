/- The document's digits and letters: Spread. -/
import Derived.Test.YtholafecbmhhhaaDigD
import Derived.OneCell
import Derived.OwnWalk
import Derived.Laws.OwnMore
import Derived.RegionTactic
import Derived.ChangeAlike
namespace Go.Proofs.Ytholafecbmhhhaa.Dg
open Go.RowKit
set_option linter.unusedVariables false

theorem Try.infoBool : (Try.prog.info? 4).map (fun i => (i.zero, i.size, i.bytes)) = some (some (.bool false), 1, 1) := by kernel_rfl
abbrev cellsB (T : List Bool) : List Value := T.map Value.bool

/-- the digits spread, and the places taken, behind k places -/
def spr (L : Nat) (zs : List Int) : Nat → List Nat
  | 0 => List.replicate 6 0
  | k + 1 => (spr L zs k).set (zs.getD k 0).toNat (L / 2 ^ k % 2)
def tak (zs : List Int) : Nat → List Bool
  | 0 => List.replicate 6 false
  | k + 1 => (tak zs k).set (zs.getD k 0).toNat true
def Free (zs : List Int) (k : Nat) : Prop := (tak zs k).getD (zs.getD k 0).toNat false = false
theorem spr_length (L : Nat) (zs : List Int) (k : Nat) : (spr L zs k).length = 6 := by
  induction k with
  | zero => rfl
  | succ k ih => rw [spr, List.length_set, ih]
theorem tak_length (zs : List Int) (k : Nat) : (tak zs k).length = 6 := by
  induction k with
  | zero => rfl
  | succ k ih => rw [tak, List.length_set, ih]
theorem spr_bit (L : Nat) (zs : List Int) (k : Nat) : ∀ d ∈ spr L zs k, d ≤ 1 := by
  induction k with
  | zero => intro d hd; rw [(List.mem_replicate.1 hd).2]; omega
  | succ k ih =>
    intro d hd
    rcases List.mem_or_eq_of_mem_set hd with h | rfl
    · exact ih d h
    · omega

theorem made_zerosI : (madeCells (Value.int .i64 0).cells (6 * 1)).toList = cellsI (List.replicate 6 0) := by
  show (madeCells #[Value.int .i64 0] 6).toList = _
  rw [toList_madeCells_one]; rfl
theorem made_falses : (madeCells (Value.bool false).cells (6 * 1)).toList = cellsB (List.replicate 6 false) := by
  show (madeCells #[Value.bool false] 6).toList = _
  rw [toList_madeCells_one]; rfl
theorem ownsI_cell {w : World} {base g n cap : Nat} {O : List Nat} (h : w.ownsRow base 3 1 (.slice (some ⟨g, 0, none⟩) n cap) n (cellsI O)) (p : Nat) (hp : p < n) : w.cell? ⟨g, p, none⟩ = some (.int .i64 ((O.getD p 0 : Nat) : Int)) := by
  have hl := h.1
  simp only [List.length_map, Nat.mul_one] at hl
  rw [h.cellAt p (by omega), List.getElem?_map, List.getElem?_eq_getElem (by omega)]
  simp [List.getD_eq_getElem?_getD, List.getElem?_eq_getElem (show p < O.length by omega)]
theorem ownsB_cell {w : World} {base g n cap : Nat} {T : List Bool} (h : w.ownsRow base 4 1 (.slice (some ⟨g, 0, none⟩) n cap) n (cellsB T)) (p : Nat) (hp : p < n) : w.cell? ⟨g, p, none⟩ = some (.bool (T.getD p false)) := by
  have hl := h.1
  simp only [List.length_map, Nat.mul_one] at hl
  rw [h.cellAt p (by omega), List.getElem?_map, List.getElem?_eq_getElem (by omega)]
  simp [List.getD_eq_getElem?_getD, List.getElem?_eq_getElem (show p < T.length by omega)]

theorem ret2 {a b c d : Int} (h : a = c) (k : b = d) : Ending.returned (.tuple #[.int .i64 a, .int .i64 b]) = .returned (.tuple #[.int .i64 c, .int .i64 d]) := by rw [h, k]

set_option maxHeartbeats 2000000 in
theorem spread_in (L : Nat) (r c : Int) (ao : Option Addr) (len cap : Nat) (zs : List Int) (w : World) (h : RdZ w ao len cap zs) (hL : L < 2 ^ len) (hf : Fit zs len)
    (hok : (∀ j, j < len → Free zs j) → r = ((num (spr L zs len) : Nat) : Int) ∧ c = 0) (hno : (∃ j, j < len ∧ ¬ Free zs j) → r = 0 ∧ c = 5) :
    Calls Try.prog 38 #[.int .i64 L, .slice ao len cap] w fun e w' => e = .returned (.tuple #[.int .i64 r, .int .i64 c]) ∧ Below w.heap.size w w' := by
  have hcap := h.lecap
  have hmax := h.lemax
  have h6 := hf.1
  have HF : Hid (Fit zs len) := hf
  have HL : Hid (zs.length = len) := h.eqlen
  have HK : Hid ((∀ j, j < len → Free zs j) → r = ((num (spr L zs len) : Nat) : Int) ∧ c = 0) := hok
  have HN : Hid ((∃ j, j < len ∧ ¬ Free zs j) → r = 0 ∧ c = 5) := hno
  have HLt : Hid (L < 2 ^ len) := hL
  have hp64 : 2 ^ len ≤ 2 ^ 6 := Nat.pow_le_pow_right (by omega) h6
  have hL64 : L < 64 := Nat.lt_of_lt_of_le hL hp64
  clear hf hok hno hL hp64
  obtain ⟨ii, hi, hi0, hi1, hi2⟩ := info_parts Try.infoInt
  obtain ⟨ib, hb, hb0, hb1, hb2⟩ := info_parts Try.infoBool
  go_enter Try.func38, Try.ntmps38
  go_wp2_with (first
    | (go_at_call 56; refine (places_at true _ _ _ zs _ h ⟨fun _ => HF.out, fun _ => rfl⟩).mono ?_; rintro e w' ⟨rfl, rfl⟩))
  go_loop [6, 7] (fun m i => ∃ k : Nat, k ≤ len ∧ i = .int .i64 k ∧ m = .int .i64 ((2 ^ k : Nat) : Int)) (fun _ i => len - (intOf i).toNat)
  case atStart => exact ⟨0, Nat.zero_le _, rfl, rfl⟩
  case round =>
    obtain ⟨k, hk, rfl, rfl⟩ := hrel
    by_cases hlt : k < len
    · have hm : 2 ^ k ≤ 2 ^ 5 := Nat.pow_le_pow_right (by omega) (by omega)
      have HM : Hid (2 ^ (k + 1) = 2 ^ k * 2) := Nat.pow_succ 2 k
      obtain ⟨M, hM⟩ : ∃ M, 2 ^ k = M := ⟨_, rfl⟩
      rw [hM] at hm HM ⊢
      clear hM
      go_wp2
      go_round
      case rel => exact ⟨k + 1, by omega, by go_num, by rw [HM.out]; go_num⟩
      case measure => simp [intOf]; omega
    · obtain rfl : k = len := by omega
      have hLt := HLt.out
      obtain ⟨M, hM⟩ : ∃ M, 2 ^ k = M := ⟨_, rfl⟩
      rw [hM] at hLt ⊢
      clear hM HLt
      go_wp2_with (first
        | (go_at_call 51; refine (digits_at L k _ (by omega) (by omega)).mono ?_; rintro e w1 ⟨v1, rfl, hown1, hB1⟩; obtain ⟨ro, cr, rfl, hR1⟩ := rd_of_owns hown1)
        | (at_make; refine wpList_make_full _ rfl _ _ 54 rfl w1.heap.size 3 ii (.int .i64 0) 1 Try.underlying54 hi hi0 hi1 _ _ _ _ 6 rfl rfl rfl rfl (by rw [hi2]; omega) (by unfold maxLen; omega) (Nat.le_refl _) ?_; intro w2 hown2 hg2; rw [made_zerosI] at hown2)
        | (at_make; refine wpList_make_full _ rfl _ _ 33 rfl w2.heap.size 4 ib (.bool false) 1 Try.underlying33 hb hb0 hb1 _ _ _ _ 6 rfl rfl rfl rfl (by rw [hb2]; omega) (by unfold maxLen; omega) (Nat.le_refl _) ?_; intro w3 hown3 hg3; rw [made_falses] at hown3))
      have hlt12 : w1.heap.size < w2.heap.size := (hown2.lt w1.heap.size rfl).2
      have hB2 : Below w1.heap.size w1 w2 := (Below.refl _ _).grown hg2 (Nat.le_refl _) (fun k h => by cases h)
      have hB3 : Below w1.heap.size w1 w3 := hB2.grown hg3 hB2.size (fun k h => by cases h)
      have hown2' := hown2.kept hg3 (Or.inr (by intro e; cases e))
      have hlw1 := hB1.size
      clear hg2 hg3 hB2 hown2 hown1
      go_loopw [11] (fun i wr => ∃ n : Nat, n ≤ k ∧ i = .int .i64 n ∧ wr.ownsRow w1.heap.size 3 1 (.slice (some ⟨w1.heap.size, 0, none⟩) 6 6) 6 (cellsI (spr L zs n)) ∧ wr.ownsRow w2.heap.size 4 1 (.slice (some ⟨w2.heap.size, 0, none⟩) 6 6) 6 (cellsB (tak zs n)) ∧ Hid (∀ j, j < n → Free zs j) ∧ Below w1.heap.size w1 wr) (fun i _ => k - (intOf i).toNat)
      case atStart => exact ⟨0, Nat.zero_le _, rfl, hown2', hown3, fun j hj => absurd hj (by omega), hB3⟩
      case round =>
        clear hown2' hown3 hB3
        obtain ⟨n, hn, rfl, hO, hT, hall, hnx⟩ := hrel
        by_cases hlt : n < k
        · have hz := HF.out.2 n hlt
          obtain ⟨lb, lo, rfl, hlc⟩ := h.cell n hlt
          obtain ⟨db, dof, rfl, hdc⟩ := hR1.cell n hlt
          rw [digs_get L k n hlt] at hdc
          have HS : Hid (spr L zs (n + 1) = (spr L zs n).set (zs.getD n 0).toNat (L / 2 ^ n % 2)) := rfl
          have HT : Hid (tak zs (n + 1) = (tak zs n).set (zs.getD n 0).toNat true) := rfl
          have HFr : Hid (Free zs n ↔ (tak zs n).getD (zs.getD n 0).toNat false = false) := Iff.rfl
          obtain ⟨p, hp⟩ : ∃ p : Nat, zs.getD n 0 = p := ⟨(zs.getD n 0).toNat, by omega⟩
          rw [hp] at hlc hz HS HT HFr
          rw [Int.toNat_natCast] at HS HT HFr
          have hp6 : p < 6 := by omega
          have hlb : lb < w.heap.size := World.block_lt_of_cell? _ _ hlc
          have hdb : db < w1.heap.size := World.block_lt_of_cell? _ _ hdc
          have hlc' : wr.cell? ⟨lb, lo + n, none⟩ = some (.int .i64 p) := by rw [hnx.cell (by simp only; omega), hB1.cell hlb]; exact hlc
          have htc := ownsB_cell hT p hp6
          obtain ⟨q, hq⟩ : ∃ q : Nat, L / 2 ^ n % 2 = q := ⟨_, rfl⟩
          rw [hq] at hdc HS
          clear hq hp hz hlc
          cases hfree : (tak zs n).getD p false with
          | true =>
            rw [hfree] at htc
            have HX : Hid (r = 0 ∧ c = 5) := HN.out ⟨n, hlt, fun e => by have := HFr.out.1 e; rw [hfree] at this; cases this⟩
            have hend := hB1.trans (hnx.mono hB1.size)
            clear hdc
            go_wp2
            go_ret2
            exact ⟨ret2 HX.out.1.symm HX.out.2.symm, hend⟩
          | false =>
            rw [hfree] at htc
            have htf := hT.frozenAt p
            have hnx1 := hnx.setCell (p := ⟨w2.heap.size, p, none⟩) (Nat.le_of_lt hlt12) (.bool true)
            have hlc1 := (hnx1.cell (p := ⟨lb, lo + n, none⟩) (by simp only; omega)).trans ((hnx.cell (by simp only; omega)).symm.trans hlc')
            have hdc1 := (hnx1.cell (p := ⟨db, dof + n, none⟩) (by simp only; omega)).trans hdc
            have hO1 := ownsRow_setCell_other hO (a := ⟨w2.heap.size, p, none⟩) (by simp only [Value.ownBlock, ne_eq, Option.some.injEq]; omega) (.bool true)
            have hoc1 := ownsI_cell hO1 p hp6
            have hof1 := hO1.frozenAt p
            have hnx2 := hnx1.setCell (p := ⟨w1.heap.size, p, none⟩) (Nat.le_refl _) (.int .i64 q)
            have hO2 := (hO1.stored p (.int .i64 q)).1
            have hT2 := ownsRow_setCell_other (hT.stored p (.bool true)).1 (a := ⟨w1.heap.size, p, none⟩) (by simp only [Value.ownBlock, ne_eq, Option.some.injEq]; omega) (.int .i64 q)
            have hc1 : (cellsI (spr L zs n)).set p (.int .i64 (q : Int)) = cellsI ((spr L zs n).set p q) := by unfold cellsI; rw [List.map_set]
            have hc2 : (cellsB (tak zs n)).set p (.bool true) = cellsB ((tak zs n).set p true) := by unfold cellsB; rw [List.map_set]
            rw [hc1, ← HS.out] at hO2
            rw [hc2, ← HT.out] at hT2
            have HO2 : Hid _ := hO2
            have HT2 : Hid _ := hT2
            have HA : Hid (∀ j, j < n + 1 → Free zs j) := by
              intro j hj
              rcases Nat.lt_succ_iff_lt_or_eq.1 hj with hj | rfl
              · exact hall.out j hj
              · exact HFr.out.2 hfree
            clear hc1 hc2 hO2 hT2 HS HT HFr hall hfree hdc hO1 hO hT
            go_wp2
            go_region
            all_goals go_wp2
            all_goals go_roundw
            case rel =>
              go_light
              exact ⟨n + 1, by omega, by go_num, World.ownsRow.drew HO2.out, World.ownsRow.drew HT2.out, HA.out, hnx2.drew⟩
            case measure => simp [intOf]; omega
        · obtain rfl : n = k := by omega
          have HX := HK.out hall.out
          obtain ⟨ro2, rc2, hve, hR2⟩ := rd_of_owns hO
          simp only [Value.slice.injEq, true_and] at hve
          obtain ⟨rfl, rfl⟩ := hve
          have HBt : Hid (∀ d ∈ spr L zs n, d ≤ 1) := spr_bit L zs n
          have HX' : Hid (r = ((num (spr L zs n) : Nat) : Int) ∧ c = 0) := HX
          have hend := hB1.trans (hnx.mono hB1.size)
          clear HX
          go_wp2_with (go_at_call 52; refine (letter_at _ _ _ _ _ hR2 (by omega) HBt.out).mono ?_; rintro e w' ⟨rfl, rfl⟩)
          go_ret2
          exact ⟨ret2 HX'.out.1.symm HX'.out.2.symm, hend⟩

set_option maxHeartbeats 1000000 in
theorem spread_no (x : Int) (ao : Option Addr) (len cap : Nat) (zs : List Int) (w : World) (h : RdZ w ao len cap zs) (hn : ¬ (Fit zs len ∧ 0 ≤ x ∧ x < ((2 ^ len : Nat) : Int))) :
    Calls Try.prog 38 #[.int .i64 x, .slice ao len cap] w fun e w' => e = .returned (.tuple #[.int .i64 0, .int .i64 2]) ∧ w = w' := by
  by_cases hf : Fit zs len
  · have HF : Hid (true = true ↔ Fit zs len) := ⟨fun _ => hf, fun _ => rfl⟩
    have h6 := hf.1
    have hcap := h.lecap
    have hmax := h.lemax
    by_cases hx : x < 0
    · clear hf hn
      go_enter Try.func38, Try.ntmps38
      go_wp2_with (go_at_call 56; refine (places_at true _ _ _ zs _ h HF.out).mono ?_; rintro e w' ⟨rfl, rfl⟩)
      go_ret2
      exact ⟨rfl, rfl⟩
    · have HX : Hid (((2 ^ len : Nat) : Int) ≤ x) := by
        show _ ≤ _
        have : ¬ x < ((2 ^ len : Nat) : Int) := fun hlt => hn ⟨hf, by omega, hlt⟩
        omega
      clear hf hn
      go_enter Try.func38, Try.ntmps38
      go_wp2_with (go_at_call 56; refine (places_at true _ _ _ zs _ h HF.out).mono ?_; rintro e w' ⟨rfl, rfl⟩)
      go_loop [6, 7] (fun m i => ∃ k : Nat, k ≤ len ∧ i = .int .i64 k ∧ m = .int .i64 ((2 ^ k : Nat) : Int)) (fun _ i => len - (intOf i).toNat)
      case atStart => exact ⟨0, Nat.zero_le _, rfl, rfl⟩
      case round =>
        obtain ⟨k, hk, rfl, rfl⟩ := hrel
        by_cases hlt : k < len
        · have hm : 2 ^ k ≤ 2 ^ 5 := Nat.pow_le_pow_right (by omega) (by omega)
          have HM : Hid (2 ^ (k + 1) = 2 ^ k * 2) := Nat.pow_succ 2 k
          obtain ⟨M, hM⟩ : ∃ M, 2 ^ k = M := ⟨_, rfl⟩
          rw [hM] at hm HM ⊢
          clear hM
          go_wp2
          go_round
          case rel => exact ⟨k + 1, by omega, by go_num, by rw [HM.out]; go_num⟩
          case measure => simp [intOf]; omega
        · obtain rfl : k = len := by omega
          have hX := HX.out
          obtain ⟨M, hM⟩ : ∃ M, 2 ^ k = M := ⟨_, rfl⟩
          rw [hM] at hX ⊢
          clear hM HX
          go_wp2
          go_ret2
          exact ⟨rfl, rfl⟩
  · have HF : Hid (false = true ↔ Fit zs len) := ⟨fun e => absurd e Bool.false_ne_true, fun e => absurd e hf⟩
    clear hf hn
    go_enter Try.func38, Try.ntmps38
    go_wp2_with (go_at_call 56; refine (places_at false _ _ _ zs _ h HF.out).mono ?_; rintro e w' ⟨rfl, rfl⟩)
    go_ret2
    exact ⟨rfl, rfl⟩
end Go.Proofs.Ytholafecbmhhhaa.Dg
