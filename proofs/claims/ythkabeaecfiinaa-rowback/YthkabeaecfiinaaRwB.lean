/- Lists of numbers and of cubes, held against each other. -/
import Derived.Test.YthkabeaecfiinaaRwM
namespace Go.Proofs.Ythkabeaecfiinaa.Ro
open Go.RowKit
set_option linter.unusedVariables false

theorem listC_ext {n : Nat} {T U : List Cb} (hT : T.length = n) (hU : U.length = n) (h : ∀ j, j < n → T.getD j default = U.getD j default) : T = U := by
  apply List.ext_getElem (by rw [hT, hU])
  intro i h1 h2
  have := h i (by omega)
  rwa [List.getD_eq_getElem?_getD, List.getD_eq_getElem?_getD, List.getElem?_eq_getElem h1, List.getElem?_eq_getElem h2, Option.getD_some, Option.getD_some] at this
set_option maxHeartbeats 2000000 in
theorem eqi_at (ao ao' : Option Addr) (n c m c' : Nat) (T U : List Int) (r : Bool) (w : World) (h : RdZ w ao n c T) (k : RdZ w ao' m c' U) (hr : r = true ↔ T = U) :
    Calls Try.prog 26 #[.slice ao n c, .slice ao' m c'] w fun e w' => e = .returned (.bool r) ∧ Below w.heap.size w w' := by
  have hcn := h.lecap
  have hcx := h.lemax
  have hcm := k.lecap
  have hmx := k.lemax
  have HT : Hid (T.length = n) := h.eqlen
  have HU : Hid (U.length = m) := k.eqlen
  have HR : Hid (r = true ↔ T = U) := hr
  clear hr
  by_cases hnm : n = m
  · subst hnm
    go_enter Try.func26, Try.ntmps26
    go_wp2
    go_loopw [13] (fun i wr => ∃ j : Nat, j ≤ n ∧ i = .int .i64 j ∧ Hid (∀ a, a < j → T.getD a 0 = U.getD a 0) ∧ Below w.heap.size w wr) (fun i _ => n - (intOf i).toNat)
    case atStart => exact ⟨0, Nat.zero_le _, rfl, fun a ha => absurd ha (by omega), Below.refl _ _⟩
    case round =>
      obtain ⟨j, hj, rfl, hall, hnx⟩ := hrel
      by_cases hlt : j < n
      · obtain ⟨g, o, rfl, hb⟩ := h.cell j hlt
        obtain ⟨g', o', rfl, hc⟩ := k.cell j hlt
        have hb' := (hnx.cell (World.block_lt_of_cell? _ _ hb)).trans hb
        have hc' := (hnx.cell (World.block_lt_of_cell? _ _ hc)).trans hc
        have hnd := fun q => below_drewn hnx q
        clear hb hc
        by_cases he : T.getD j 0 = U.getD j 0
        · have HE : Hid (T.getD j 0 = U.getD j 0) := he
          rw [he] at hb'
          clear he
          obtain ⟨y, hy⟩ : ∃ y, U.getD j 0 = y := ⟨_, rfl⟩
          rw [hy] at hb' hc'
          clear hy
          go_wp2
          go_quiet (fail)
          go_wp2
          go_roundw
          case rel =>
            refine ⟨j + 1, by omega, by go_num, fun a ha => ?_, hnd _⟩
            rcases Nat.lt_succ_iff_lt_or_eq.1 ha with ha | rfl
            · exact hall.out a ha
            · exact HE.out
          case measure => simp [intOf]; omega
        · have HE : Hid (r = false) := by
            cases r with
            | false => rfl
            | true => exact absurd (by rw [HR.out.1 rfl]) he
          obtain ⟨x, hx⟩ : ∃ x, T.getD j 0 = x := ⟨_, rfl⟩
          obtain ⟨y, hy⟩ : ∃ y, U.getD j 0 = y := ⟨_, rfl⟩
          rw [hx] at hb' he
          rw [hy] at hc' he
          clear hx hy
          go_wp2
          go_quiet (fail)
          go_wp2
          go_ret
          exact ⟨retb HE.out.symm, hnd _⟩
      · obtain rfl : j = n := by omega
        have HE : Hid (r = true) := HR.out.2 (list_ext HT.out HU.out hall.out)
        go_wp2
        go_ret
        exact ⟨retb HE.out.symm, hnx⟩
  · have HE : Hid (r = false) := by
      cases r with
      | false => rfl
      | true => exact absurd (by rw [← HT.out, HR.out.1 rfl, HU.out]) hnm
    have hnm' : ¬ (n : Int) = (m : Int) := by omega
    have hB0 := Below.refl w.heap.size w
    go_enter Try.func26, Try.ntmps26
    go_wp2
    go_ret
    exact ⟨retb HE.out.symm, hB0⟩
set_option maxHeartbeats 2000000 in
theorem ints_at (ao ao' : Option Addr) (n c m c' : Nat) (T U : List Int) (r : Bool) (w : World) (h : RdZ w ao n c T) (k : RdZ w ao' m c' U) (hr : r = true ↔ T = U) :
    Calls Try.prog 13 #[.slice ao n c, .slice ao' m c'] w fun e w' => e = .returned (.bool r) ∧ Below w.heap.size w w' := by
  have hcn := h.lecap
  have hcx := h.lemax
  have hcm := k.lecap
  have hmx := k.lemax
  have HT : Hid (T.length = n) := h.eqlen
  have HU : Hid (U.length = m) := k.eqlen
  have HR : Hid (r = true ↔ T = U) := hr
  clear hr
  by_cases hnm : n = m
  · subst hnm
    go_enter Try.func13, Try.ntmps13
    go_wp2
    go_loopw [13] (fun i wr => ∃ j : Nat, j ≤ n ∧ i = .int .i64 j ∧ Hid (∀ a, a < j → T.getD a 0 = U.getD a 0) ∧ Below w.heap.size w wr) (fun i _ => n - (intOf i).toNat)
    case atStart => exact ⟨0, Nat.zero_le _, rfl, fun a ha => absurd ha (by omega), Below.refl _ _⟩
    case round =>
      obtain ⟨j, hj, rfl, hall, hnx⟩ := hrel
      by_cases hlt : j < n
      · obtain ⟨g, o, rfl, hb⟩ := h.cell j hlt
        obtain ⟨g', o', rfl, hc⟩ := k.cell j hlt
        have hb' := (hnx.cell (World.block_lt_of_cell? _ _ hb)).trans hb
        have hc' := (hnx.cell (World.block_lt_of_cell? _ _ hc)).trans hc
        have hnd := fun q => below_drewn hnx q
        clear hb hc
        by_cases he : T.getD j 0 = U.getD j 0
        · have HE : Hid (T.getD j 0 = U.getD j 0) := he
          rw [he] at hb'
          clear he
          obtain ⟨y, hy⟩ : ∃ y, U.getD j 0 = y := ⟨_, rfl⟩
          rw [hy] at hb' hc'
          clear hy
          go_wp2
          go_quiet (fail)
          go_wp2
          go_roundw
          case rel =>
            refine ⟨j + 1, by omega, by go_num, fun a ha => ?_, hnd _⟩
            rcases Nat.lt_succ_iff_lt_or_eq.1 ha with ha | rfl
            · exact hall.out a ha
            · exact HE.out
          case measure => simp [intOf]; omega
        · have HE : Hid (r = false) := by
            cases r with
            | false => rfl
            | true => exact absurd (by rw [HR.out.1 rfl]) he
          obtain ⟨x, hx⟩ : ∃ x, T.getD j 0 = x := ⟨_, rfl⟩
          obtain ⟨y, hy⟩ : ∃ y, U.getD j 0 = y := ⟨_, rfl⟩
          rw [hx] at hb' he
          rw [hy] at hc' he
          clear hx hy
          go_wp2
          go_quiet (fail)
          go_wp2
          go_ret
          exact ⟨retb HE.out.symm, hnd _⟩
      · obtain rfl : j = n := by omega
        have HE : Hid (r = true) := HR.out.2 (list_ext HT.out HU.out hall.out)
        go_wp2
        go_ret
        exact ⟨retb HE.out.symm, hnx⟩
  · have HE : Hid (r = false) := by
      cases r with
      | false => rfl
      | true => exact absurd (by rw [← HT.out, HR.out.1 rfl, HU.out]) hnm
    have hnm' : ¬ (n : Int) = (m : Int) := by omega
    have hB0 := Below.refl w.heap.size w
    go_enter Try.func13, Try.ntmps13
    go_wp2
    go_ret
    exact ⟨retb HE.out.symm, hB0⟩
set_option maxHeartbeats 2000000 in
theorem rsame_at (ao ao' : Option Addr) (n c m c' : Nat) (T U : List Int) (r : Bool) (w : World) (h : RdZ w ao n c T) (k : RdZ w ao' m c' U) (hr : r = true ↔ T = U) (hnm : n = m) :
    Calls Try.prog 29 #[.slice ao n c, .slice ao' m c'] w fun e w' => e = .returned (.bool r) ∧ Below w.heap.size w w' := by
  have hcn := h.lecap
  have hcx := h.lemax
  have hcm := k.lecap
  have hmx := k.lemax
  have HT : Hid (T.length = n) := h.eqlen
  have HU : Hid (U.length = m) := k.eqlen
  have HR : Hid (r = true ↔ T = U) := hr
  clear hr
  subst hnm
  go_enter Try.func29, Try.ntmps29
  go_wp2
  go_loopw [5] (fun i wr => ∃ j : Nat, j ≤ n ∧ i = .int .i64 j ∧ Hid (∀ a, a < j → T.getD a 0 = U.getD a 0) ∧ Below w.heap.size w wr) (fun i _ => n - (intOf i).toNat)
  case atStart => exact ⟨0, Nat.zero_le _, rfl, fun a ha => absurd ha (by omega), Below.refl _ _⟩
  case round =>
    obtain ⟨j, hj, rfl, hall, hnx⟩ := hrel
    by_cases hlt : j < n
    · obtain ⟨g, o, rfl, hb⟩ := h.cell j hlt
      obtain ⟨g', o', rfl, hc⟩ := k.cell j hlt
      have hb' := (hnx.cell (World.block_lt_of_cell? _ _ hb)).trans hb
      have hc' := (hnx.cell (World.block_lt_of_cell? _ _ hc)).trans hc
      have hnd := fun q => below_drewn hnx q
      clear hb hc
      by_cases he : T.getD j 0 = U.getD j 0
      · have HE : Hid (T.getD j 0 = U.getD j 0) := he
        rw [he] at hb'
        clear he
        obtain ⟨y, hy⟩ : ∃ y, U.getD j 0 = y := ⟨_, rfl⟩
        rw [hy] at hb' hc'
        clear hy
        go_wp2
        go_quiet (fail)
        go_wp2
        go_roundw
        case rel =>
          refine ⟨j + 1, by omega, by go_num, fun a ha => ?_, hnd _⟩
          rcases Nat.lt_succ_iff_lt_or_eq.1 ha with ha | rfl
          · exact hall.out a ha
          · exact HE.out
        case measure => simp [intOf]; omega
      · have HE : Hid (r = false) := by
          cases r with
          | false => rfl
          | true => exact absurd (by rw [HR.out.1 rfl]) he
        obtain ⟨x, hx⟩ : ∃ x, T.getD j 0 = x := ⟨_, rfl⟩
        obtain ⟨y, hy⟩ : ∃ y, U.getD j 0 = y := ⟨_, rfl⟩
        rw [hx] at hb' he
        rw [hy] at hc' he
        clear hx hy
        go_wp2
        go_quiet (fail)
        go_wp2
        go_ret
        exact ⟨retb HE.out.symm, hnd _⟩
    · obtain rfl : j = n := by omega
      have HE : Hid (r = true) := HR.out.2 (list_ext HT.out HU.out hall.out)
      go_wp2
      go_ret
      exact ⟨retb HE.out.symm, hnx⟩
set_option maxHeartbeats 2000000 in
theorem eqc_at (ao ao' : Option Addr) (n c m c' : Nat) (T U : List Cb) (r : Bool) (w : World) (h : RdC w ao n c T) (k : RdC w ao' m c' U) (hr : r = true ↔ T = U) :
    Calls Try.prog 24 #[.slice ao n c, .slice ao' m c'] w fun e w' => e = .returned (.bool r) ∧ Below w.heap.size w w' := by
  have hcn := h.lecap
  have hcx := h.lemax
  have hcm := k.lecap
  have hmx := k.lemax
  have HT : Hid (T.length = n) := h.eqlen
  have HU : Hid (U.length = m) := k.eqlen
  have HR : Hid (r = true ↔ T = U) := hr
  clear hr
  by_cases hnm : n = m
  · subst hnm
    go_enter Try.func24, Try.ntmps24
    go_wp2
    go_loopw [13] (fun i wr => ∃ j : Nat, j ≤ n ∧ i = .int .i64 j ∧ Hid (∀ a, a < j → T.getD a default = U.getD a default) ∧ Below w.heap.size w wr) (fun i _ => n - (intOf i).toNat)
    case atStart => exact ⟨0, Nat.zero_le _, rfl, fun a ha => absurd ha (by omega), Below.refl _ _⟩
    case round =>
      obtain ⟨j, hj, rfl, hall, hnx⟩ := hrel
      by_cases hlt : j < n
      · obtain ⟨g, o, rfl, hg, b0, b1, b2⟩ := (h.below (Nat.le_refl _) hnx).cell j hlt
        obtain ⟨g', o', rfl, hg', c0, c1, c2⟩ := (k.below (Nat.le_refl _) hnx).cell j hlt
        have hnd := fun q => below_drewn hnx q
        by_cases he : T.getD j default = U.getD j default
        · have HE : Hid (T.getD j default = U.getD j default) := he
          rw [he] at b0 b1 b2
          clear he
          generalize U.getD j default = x at b0 b1 b2 c0 c1 c2
          obtain ⟨xm, xb, xt⟩ := x
          dsimp only at b0 b1 b2 c0 c1 c2
          go_wp2
          go_quiet (fail)
          go_wp2
          go_roundw
          case rel =>
            refine ⟨j + 1, by omega, by go_num, fun a ha => ?_, hnd _⟩
            rcases Nat.lt_succ_iff_lt_or_eq.1 ha with ha | rfl
            · exact hall.out a ha
            · exact HE.out
          case measure => simp [intOf]; omega
        · have HE : Hid (r = false) := by
            cases r with
            | false => rfl
            | true => exact absurd (by rw [HR.out.1 rfl]) he
          generalize T.getD j default = x at b0 b1 b2 he
          generalize U.getD j default = y at c0 c1 c2 he
          obtain ⟨xm, xb, xt⟩ := x
          obtain ⟨ym, yb, yt⟩ := y
          dsimp only at b0 b1 b2 c0 c1 c2
          by_cases h0 : xm = ym
          · subst h0
            by_cases h1 : xb = yb
            · subst h1
              have h2 : ¬ xt = yt := fun e => he (by rw [e])
              have h2' : (xt == yt) = false := beq_false_of_ne h2
              go_wp2
              go_quiet (fail)
              go_wp2
              go_ret
              exact ⟨retb HE.out.symm, hnd _⟩
            · have h2' : (xb == yb) = false := beq_false_of_ne h1
              go_wp2
              go_quiet (fail)
              go_wp2
              go_ret
              exact ⟨retb HE.out.symm, hnd _⟩
          · have h2' : (xm == ym) = false := beq_false_of_ne h0
            go_wp2
            go_quiet (fail)
            go_wp2
            go_ret
            exact ⟨retb HE.out.symm, hnd _⟩
      · obtain rfl : j = n := by omega
        have HE : Hid (r = true) := HR.out.2 (listC_ext HT.out HU.out hall.out)
        go_wp2
        go_ret
        exact ⟨retb HE.out.symm, hnx⟩
  · have HE : Hid (r = false) := by
      cases r with
      | false => rfl
      | true => exact absurd (by rw [← HT.out, HR.out.1 rfl, HU.out]) hnm
    have hnm' : ¬ (n : Int) = (m : Int) := by omega
    have hB0 := Below.refl w.heap.size w
    go_enter Try.func24, Try.ntmps24
    go_wp2
    go_ret
    exact ⟨retb HE.out.symm, hB0⟩
set_option maxHeartbeats 2000000 in
theorem cubes_at (ao ao' : Option Addr) (n c m c' : Nat) (T U : List Cb) (r : Bool) (w : World) (h : RdC w ao n c T) (k : RdC w ao' m c' U) (hr : r = true ↔ T = U) :
    Calls Try.prog 12 #[.slice ao n c, .slice ao' m c'] w fun e w' => e = .returned (.bool r) ∧ Below w.heap.size w w' := by
  have hcn := h.lecap
  have hcx := h.lemax
  have hcm := k.lecap
  have hmx := k.lemax
  have HT : Hid (T.length = n) := h.eqlen
  have HU : Hid (U.length = m) := k.eqlen
  have HR : Hid (r = true ↔ T = U) := hr
  clear hr
  by_cases hnm : n = m
  · subst hnm
    go_enter Try.func12, Try.ntmps12
    go_wp2
    go_loopw [13] (fun i wr => ∃ j : Nat, j ≤ n ∧ i = .int .i64 j ∧ Hid (∀ a, a < j → T.getD a default = U.getD a default) ∧ Below w.heap.size w wr) (fun i _ => n - (intOf i).toNat)
    case atStart => exact ⟨0, Nat.zero_le _, rfl, fun a ha => absurd ha (by omega), Below.refl _ _⟩
    case round =>
      obtain ⟨j, hj, rfl, hall, hnx⟩ := hrel
      by_cases hlt : j < n
      · obtain ⟨g, o, rfl, hg, b0, b1, b2⟩ := (h.below (Nat.le_refl _) hnx).cell j hlt
        obtain ⟨g', o', rfl, hg', c0, c1, c2⟩ := (k.below (Nat.le_refl _) hnx).cell j hlt
        have hnd := fun q => below_drewn hnx q
        by_cases he : T.getD j default = U.getD j default
        · have HE : Hid (T.getD j default = U.getD j default) := he
          rw [he] at b0 b1 b2
          clear he
          generalize U.getD j default = x at b0 b1 b2 c0 c1 c2
          obtain ⟨xm, xb, xt⟩ := x
          dsimp only at b0 b1 b2 c0 c1 c2
          go_wp2
          go_quiet (fail)
          go_wp2
          go_roundw
          case rel =>
            refine ⟨j + 1, by omega, by go_num, fun a ha => ?_, hnd _⟩
            rcases Nat.lt_succ_iff_lt_or_eq.1 ha with ha | rfl
            · exact hall.out a ha
            · exact HE.out
          case measure => simp [intOf]; omega
        · have HE : Hid (r = false) := by
            cases r with
            | false => rfl
            | true => exact absurd (by rw [HR.out.1 rfl]) he
          generalize T.getD j default = x at b0 b1 b2 he
          generalize U.getD j default = y at c0 c1 c2 he
          obtain ⟨xm, xb, xt⟩ := x
          obtain ⟨ym, yb, yt⟩ := y
          dsimp only at b0 b1 b2 c0 c1 c2
          by_cases h0 : xm = ym
          · subst h0
            by_cases h1 : xb = yb
            · subst h1
              have h2 : ¬ xt = yt := fun e => he (by rw [e])
              have h2' : (xt == yt) = false := beq_false_of_ne h2
              go_wp2
              go_quiet (fail)
              go_wp2
              go_ret
              exact ⟨retb HE.out.symm, hnd _⟩
            · have h2' : (xb == yb) = false := beq_false_of_ne h1
              go_wp2
              go_quiet (fail)
              go_wp2
              go_ret
              exact ⟨retb HE.out.symm, hnd _⟩
          · have h2' : (xm == ym) = false := beq_false_of_ne h0
            go_wp2
            go_quiet (fail)
            go_wp2
            go_ret
            exact ⟨retb HE.out.symm, hnd _⟩
      · obtain rfl : j = n := by omega
        have HE : Hid (r = true) := HR.out.2 (listC_ext HT.out HU.out hall.out)
        go_wp2
        go_ret
        exact ⟨retb HE.out.symm, hnx⟩
  · have HE : Hid (r = false) := by
      cases r with
      | false => rfl
      | true => exact absurd (by rw [← HT.out, HR.out.1 rfl, HU.out]) hnm
    have hnm' : ¬ (n : Int) = (m : Int) := by omega
    have hB0 := Below.refl w.heap.size w
    go_enter Try.func12, Try.ntmps12
    go_wp2
    go_ret
    exact ⟨retb HE.out.symm, hB0⟩
end Go.Proofs.Ythkabeaecfiinaa.Ro
