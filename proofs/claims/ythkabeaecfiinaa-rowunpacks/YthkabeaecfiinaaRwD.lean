/- The first cube in which a letter is; a row's half. -/
import Derived.Test.YthkabeaecfiinaaRwC
namespace Go.Proofs.Ythkabeaecfiinaa.Ro
open Go.RowKit
set_option linter.unusedVariables false

theorem look_yes {cs : List Cb} {l : Int} {j : Nat} (h : ∀ a, a < j → hit l (cs.getD a default) = false) (hj : j < cs.length) (hh : hit l (cs.getD j default) = true) : look cs l = some (cs.getD j default).t := by
  induction cs generalizing j with
  | nil => simp at hj
  | cons x cs ih =>
    unfold look
    rw [List.find?_cons]
    cases j with
    | zero =>
      have : hit l x = true := hh
      rw [this]; rfl
    | succ j =>
      have h0 : hit l x = false := h 0 (by omega)
      rw [h0]
      have := ih (j := j) (fun a ha => h (a + 1) (by omega)) (by simpa using hj) hh
      exact this
theorem look_no {cs : List Cb} {l : Int} (h : ∀ a, a < cs.length → hit l (cs.getD a default) = false) : look cs l = none := by
  unfold look
  rw [Option.map_eq_none_iff, List.find?_eq_none]
  intro x hx
  obtain ⟨i, hi, rfl⟩ := List.getElem_of_mem hx
  have := h i hi
  rw [List.getD_eq_getElem?_getD, List.getElem?_eq_getElem hi, Option.getD_some] at this
  rw [this]; decide
theorem ret_ib {a c : Int} {b d : Bool} (h : a = c) (k : b = d) : Ending.returned (.tuple #[.int .i64 a, .bool b]) = .returned (.tuple #[.int .i64 c, .bool d]) := by rw [h, k]
set_option maxHeartbeats 1000000 in
theorem at_at (ao : Option Addr) (n c : Nat) (cs : List Cb) (l : Int) (w : World) (h : RdC w ao n c cs) :
    Calls Try.prog 16 #[.slice ao n c, .int .i64 l] w fun e w' => e = .returned (.tuple #[.int .i64 ((look cs l).getD 0), .bool (look cs l).isSome]) ∧ Below w.heap.size w w' := by
  have hcn := h.lecap
  have hcx := h.lemax
  have HL : Hid (cs.length = n) := h.eqlen
  have HLo : Hid (∃ q, look cs l = q) := ⟨_, rfl⟩
  obtain ⟨q, hq⟩ := HLo.out
  have HQ : Hid (look cs l = q) := hq
  rw [hq]
  clear hq HLo
  go_enter Try.func16, Try.ntmps16
  go_wp2
  go_loopw [10] (fun i wr => ∃ j : Nat, j ≤ n ∧ i = .int .i64 j ∧ Hid (∀ a, a < j → hit l (cs.getD a default) = false) ∧ Below w.heap.size w wr) (fun i _ => n - (intOf i).toNat)
  case atStart => exact ⟨0, Nat.zero_le _, rfl, fun a ha => absurd ha (by omega), Below.refl _ _⟩
  case round =>
    obtain ⟨j, hj, rfl, hall, hnx⟩ := hrel
    by_cases hlt : j < n
    · obtain ⟨g, o, rfl, hg, b0, b1, b2⟩ := (h.below (Nat.le_refl _) hnx).cell j hlt
      have hz : w.heap.size ≤ wr.heap.size := hnx.size
      have HX : Hid (∃ x, cs.getD j default = x) := ⟨_, rfl⟩
      obtain ⟨x, hx⟩ := HX.out
      have HY : Hid (cs.getD j default = x) := hx
      rw [hx] at b0 b1 b2
      clear hx HX
      obtain ⟨xm, xb, xt⟩ := x
      dsimp only at b0 b1 b2
      have hnd : ∀ u, Below w.heap.size w ((wr.alloc u)) := fun u => hnx.alloc hz u
      by_cases hh : (bits .and .i64 l xm == xb) = true
      · have HE : Hid (q = some xt) := by
          have := look_yes hall.out (by rw [HL.out]; exact hlt) (by rw [HY.out]; exact hh)
          rw [HY.out, HQ.out] at this
          exact this
        go_wp2
        go_ret2
        refine ⟨?_, ?_⟩
        · rw [HE.out]; rfl
        · repeat refine Below.setCell ?_ hz _
          exact hnx.alloc hz _
      · have hh' : (bits .and .i64 l xm == xb) = false := by simpa using hh
        go_wp2
        go_roundw
        case rel =>
          refine ⟨j + 1, by omega, by go_num, fun a ha => ?_, ?_⟩
          · rcases Nat.lt_succ_iff_lt_or_eq.1 ha with ha | rfl
            · exact hall.out a ha
            · rw [HY.out]; exact hh'
          · repeat refine Below.setCell ?_ hz _
            exact hnx.alloc hz _
        case measure => simp [intOf]; omega
    · obtain rfl : j = n := by omega
      have HE : Hid (q = none) := by
        rw [← HQ.out]; exact look_no (by rw [HL.out]; exact hall.out)
      go_wp2
      go_ret2
      exact ⟨by rw [HE.out]; rfl, hnx⟩
set_option maxHeartbeats 1000000 in
theorem rat_at (ao : Option Addr) (n c : Nat) (cs : List Cb) (l : Int) (w : World) (h : RdC w ao n c cs) :
    Calls Try.prog 17 #[.slice ao n c, .int .i64 l] w fun e w' => e = .returned (.tuple #[.int .i64 ((look cs l).getD 0), .bool (look cs l).isSome]) ∧ Below w.heap.size w w' := by
  have hcn := h.lecap
  have hcx := h.lemax
  have HL : Hid (cs.length = n) := h.eqlen
  have HLo : Hid (∃ q, look cs l = q) := ⟨_, rfl⟩
  obtain ⟨q, hq⟩ := HLo.out
  have HQ : Hid (look cs l = q) := hq
  rw [hq]
  clear hq HLo
  go_enter Try.func17, Try.ntmps17
  go_wp2
  go_loopw [6] (fun i wr => ∃ j : Nat, j ≤ n ∧ i = .int .i64 j ∧ Hid (∀ a, a < j → hit l (cs.getD a default) = false) ∧ Below w.heap.size w wr) (fun i _ => n - (intOf i).toNat)
  case atStart => exact ⟨0, Nat.zero_le _, rfl, fun a ha => absurd ha (by omega), Below.refl _ _⟩
  case round =>
    obtain ⟨j, hj, rfl, hall, hnx⟩ := hrel
    by_cases hlt : j < n
    · obtain ⟨g, o, rfl, hg, b0, b1, b2⟩ := (h.below (Nat.le_refl _) hnx).cell j hlt
      have HX : Hid (∃ x, cs.getD j default = x) := ⟨_, rfl⟩
      obtain ⟨x, hx⟩ := HX.out
      have HY : Hid (cs.getD j default = x) := hx
      rw [hx] at b0 b1 b2
      clear hx HX
      obtain ⟨xm, xb, xt⟩ := x
      dsimp only at b0 b1 b2
      have hnd := fun q => below_drewn hnx q
      by_cases hh : (bits .and .i64 l xm == xb) = true
      · have HE : Hid (q = some xt) := by
          have := look_yes hall.out (by rw [HL.out]; exact hlt) (by rw [HY.out]; exact hh)
          rw [HY.out, HQ.out] at this
          exact this
        go_wp2
        go_quiet (fail)
        go_wp2
        go_ret2
        exact ⟨by rw [HE.out]; rfl, hnd _⟩
      · have hh' : (bits .and .i64 l xm == xb) = false := by simpa using hh
        go_wp2
        go_quiet (fail)
        go_wp2
        go_roundw
        case rel =>
          refine ⟨j + 1, by omega, by go_num, fun a ha => ?_, hnd _⟩
          rcases Nat.lt_succ_iff_lt_or_eq.1 ha with ha | rfl
          · exact hall.out a ha
          · rw [HY.out]; exact hh'
        case measure => simp [intOf]; omega
    · obtain rfl : j = n := by omega
      have HE : Hid (q = none) := by
        rw [← HQ.out]; exact look_no (by rw [HL.out]; exact hall.out)
      go_wp2
      go_ret2
      exact ⟨by rw [HE.out]; rfl, hnx⟩
/-- a row's half -/
def hlf (zs : List Int) (H d : Nat) : List Int := (zs.drop (d * H)).take H
theorem hlf_zero (zs : List Int) (H : Nat) : hlf zs H 0 = zs.take H := by simp [hlf]
theorem hlf_one (zs : List Int) (H : Nat) (h : zs.length = 2 * H) : hlf zs H 1 = zs.drop H := by
  unfold hlf; rw [Nat.one_mul, List.take_of_length_le]; rw [List.length_drop]; omega
theorem take_snoc (us : List Int) (j : Nat) (hj : j < us.length) : us.take (j + 1) = us.take j ++ [us.getD j 0] := by
  rw [List.take_succ_eq_append_getElem hj, getD_of hj]
set_option maxHeartbeats 1000000 in
theorem half_at (ao : Option Addr) (H c : Nat) (zs : List Int) (d : Nat) (w : World) (h : RdZ w ao (2 * H) c zs) (hd : d ≤ 1) (hH : H ≤ 64) :
    Calls Try.prog 28 #[.slice ao (2 * H) c, .int .i64 d] w fun e w' => ∃ v, e = .returned v ∧ w'.ownsRow w.heap.size 3 1 v H (cellsZ (hlf zs H d)) ∧ Below w.heap.size w w' := by
  have hcn := h.lecap
  have hcx := h.lemax
  have HL : Hid (zs.length = 2 * H) := h.eqlen
  obtain ⟨n, hn⟩ : ∃ n, 2 * H = n := ⟨_, rfl⟩
  have HN : Hid (2 * H = n) := hn
  have hq : (n : Int).tdiv 2 = (H : Int) := by
    rw [← hn, Int.tdiv_eq_ediv_of_nonneg (by omega)]; omega
  have hn0 : n ≤ 128 := by omega
  have hle : H ≤ n := by omega
  rw [hn] at h hcn ⊢
  clear hn
  have HU : Hid ((hlf zs H d).length = H) := by
    show _ = _
    unfold hlf
    rw [List.length_take, List.length_drop, HL.out]
    rcases (show d = 0 ∨ d = 1 by omega) with rfl | rfl <;> omega
  have HD : Hid (∀ j, j < H → (hlf zs H d).getD j 0 = zs.getD (d * H + j) 0 ∧ d * H + j < n) := fun j hj => by
    refine ⟨?_, ?_⟩
    · unfold hlf
      rw [List.getD_eq_getElem?_getD, List.getElem?_take, if_pos hj, List.getElem?_drop, ← List.getD_eq_getElem?_getD]
    · have := HN.out
      rcases (show d = 0 ∨ d = 1 by omega) with rfl | rfl <;> omega
  go_enter Try.func28, Try.ntmps28
  go_wp2
  go_loopw [5, 7] (fun o i wr => ∃ j : Nat, j ≤ H ∧ i = .int .i64 j ∧ wr.ownsRow w.heap.size 3 1 o j (cellsZ ((hlf zs H d).take j)) ∧ Below w.heap.size w wr) (fun _ i _ => H - (intOf i).toNat)
  case atStart => exact ⟨0, Nat.zero_le _, rfl, by simp; exact World.ownsRow_nil _ _ _ _, Below.refl _ _⟩
  case round =>
    obtain ⟨j, hj, rfl, hown, hnx⟩ := hrel
    by_cases hlt : j < H
    · obtain ⟨e1, e2⟩ := HD.out j hlt
      obtain ⟨g, o, rfl, hb⟩ := (h.below (Nat.le_refl _) hnx).cell (d * H + j) e2
      rw [← e1] at hb
      have HS : Hid ((hlf zs H d).take (j + 1) = (hlf zs H d).take j ++ [(hlf zs H d).getD j 0]) := take_snoc _ _ (by rw [HU.out]; exact hlt)
      generalize (hlf zs H d).getD j 0 = y at hb HS
      obtain ⟨p, hp⟩ : ∃ p, d * H + j = p := ⟨_, rfl⟩
      rw [hp] at hb e2
      have k1 : IntKind.i64.wrap ((d : Int) * (H : Int)) = (d : Int) * (H : Int) := by
        have : d * H ≤ 1 * 64 := Nat.mul_le_mul hd hH
        have e : ((d * H : Nat) : Int) = (d : Int) * (H : Int) := by simp
        rw [IntKind.wrap_i64, ← e]; omega
      have k2 : IntKind.i64.wrap ((d : Int) * (H : Int) + (j : Int)) = (p : Int) := by
        have e : ((d * H : Nat) : Int) = (d : Int) * (H : Int) := by simp
        rw [IntKind.wrap_i64, ← e]; omega
      clear e1 hp
      go_wp2_with (at_builtin; refine wp_pushZ w _ w.heap.size w.heap.size rfl (.tmp 16) (.tmp 25) rfl _ j ((hlf zs H d).take j) rfl wr.heap.size y rfl (hown.alloc _) (cell_new1 _ _ _) (size_new1 hnx.size _) (by omega) (hnx.alloc hnx.size _) (Nat.le_refl _) ?_; intro v' w1 hown' hnx')
      go_roundw
      case rel => exact ⟨j + 1, by omega, by go_num, by rw [HS.out]; exact hown', hnx'⟩
      case measure => simp [intOf]; omega
    · obtain rfl : j = H := by omega
      go_wp2
      go_ret
      refine ⟨_, rfl, ?_, hnx⟩
      rw [List.take_of_length_le (by rw [HU.out]; omega)] at hown
      exact hown
end Go.Proofs.Ythkabeaecfiinaa.Ro
