/- The document's wide numbers: comparisons, and back to 64 bits. -/
import Derived.Test.YtkanjgphmafjbaaWideE
namespace Go.Proofs.Ytkanjgphmafjbaa.Wd
open Go.RowKit
set_option linter.unusedVariables false

theorem plus_is (x y z : Int) (ao bo : Option Addr) (la ca lb cb : Nat) (w : World) (hX : Mg w ao la ca x.natAbs) (hY : Mg w bo lb cb y.natAbs) (hz : z = x + y) (hbig : z.natAbs < 65536 ^ 64) :
    Calls Try.prog 47 #[.agg #[.bool (decide (x < 0)), .slice ao la ca], .agg #[.bool (decide (y < 0)), .slice bo lb cb]] w fun e w' => ∃ ro lr cr, e = .returned (.agg #[.bool (decide (z < 0)), .slice ro lr cr]) ∧ Mg w' ro lr cr z.natAbs ∧ Below w.heap.size w w' := by
  obtain ⟨A, hA, nA, vA, lA⟩ := hX
  obtain ⟨B, hB, nB, vB, lB⟩ := hY
  by_cases hs : (x < 0 ↔ y < 0)
  · have e : decide (y < 0) = decide (x < 0) := by simp [hs]
    rw [e]
    have hv : z.natAbs = val A + val B := by omega
    refine sum_same (decide (x < 0)) z ao bo la ca lb cb A B w hA hB lA lB ?_ ?_
    · show z = _
      by_cases h : x < 0
      · rw [if_pos (by simpa using h)]; omega
      · rw [if_neg (by simpa using h)]; omega
    · show _ < _
      rw [← hv]; exact hbig
  · by_cases hle : val B ≤ val A
    · have e : decide (y < 0) = !decide (x < 0) := by
        by_cases h : x < 0 <;> by_cases h' : y < 0 <;> simp [h, h'] <;> omega
      rw [e]
      have hv : z.natAbs = val A - val B := by omega
      refine sum_left (decide (x < 0)) z ao bo la ca lb cb A B w hA hB nB lA hle ?_ ?_
      · show z = _
        by_cases h : x < 0
        · rw [if_pos (by simpa using h)]; omega
        · rw [if_neg (by simpa using h)]; omega
      · show _ < _
        rw [← hv]; exact hbig
    · have e : decide (x < 0) = !decide (y < 0) := by
        by_cases h : x < 0 <;> by_cases h' : y < 0 <;> simp [h, h'] <;> omega
      rw [e]
      have hv : z.natAbs = val B - val A := by omega
      refine sum_right (decide (y < 0)) z ao bo la ca lb cb A B w hA hB nA lB (show _ < _ by omega) ?_ ?_
      · show z = _
        by_cases h : y < 0
        · rw [if_pos (by simpa using h)]; omega
        · rw [if_neg (by simpa using h)]; omega
      · show _ < _
        rw [← hv]; exact hbig

theorem plus_b (x y z : Int) (na nb : Bool) (ao bo : Option Addr) (la ca lb cb : Nat) (w : World) (ha : na = decide (x < 0)) (hb : nb = decide (y < 0)) (hX : Mg w ao la ca x.natAbs) (hY : Mg w bo lb cb y.natAbs) (hz : z = x + y) (hbig : z.natAbs < 65536 ^ 64) :
    Calls Try.prog 47 #[.agg #[.bool na, .slice ao la ca], .agg #[.bool nb, .slice bo lb cb]] w fun e w' => ∃ b ro lr cr, e = .returned (.agg #[.bool b, .slice ro lr cr]) ∧ Hid (b = decide (z < 0)) ∧ Mg w' ro lr cr z.natAbs ∧ Below w.heap.size w w' := by
  subst ha hb
  refine (plus_is x y z ao bo la ca lb cb w hX hY hz hbig).mono ?_
  rintro e w' ⟨ao, len, cap, rfl, h1, h2⟩
  exact ⟨_, ao, len, cap, rfl, rfl, h1, h2⟩
theorem minus_b (x : Int) (nb : Bool) (ao : Option Addr) (len cap : Nat) (w : World) (hb : nb = decide (x < 0)) (h : Mg w ao len cap x.natAbs) :
    Calls Try.prog 50 #[.agg #[.bool nb, .slice ao len cap]] w fun e w' => ∃ b ao len cap, e = .returned (.agg #[.bool b, .slice ao len cap]) ∧ Hid (b = decide (-x < 0)) ∧ Mg w' ao len cap (-x).natAbs ∧ Below w.heap.size w w' := by
  subst hb; rw [Int.natAbs_neg]
  refine (minus_at x ao len cap w h).mono ?_
  rintro e w' ⟨ao, len, cap, rfl, h1, h2⟩
  exact ⟨_, ao, len, cap, rfl, rfl, h1, h2⟩

/-- the world behind the two new blocks with which Less begins -/
abbrev box2 (w : World) (na nb : Bool) (ao bo : Option Addr) (la ca lb cb : Nat) : World :=
  (w.alloc (.cells #[.bool na, .slice ao la ca] 59)).alloc (.cells #[.bool nb, .slice bo lb cb] 59)
theorem boxes2 {w W' : World} {na nb : Bool} {ao bo : Option Addr} {la ca lb cb : Nat} (h : Below (w.heap.size + 2) (box2 w na nb ao bo la ca lb cb) W') :
    W'.cell? ⟨w.heap.size, 0, none⟩ = some (.bool na) ∧ W'.cell? ⟨w.heap.size, 1, none⟩ = some (.slice ao la ca) ∧ W'.cell? ⟨w.heap.size + 1, 0, none⟩ = some (.bool nb) ∧ W'.cell? ⟨w.heap.size + 1, 1, none⟩ = some (.slice bo lb cb) := by
  have e1 := cell_two w _ rfl (.bool na) (.slice ao la ca) 59
  have e2 := cell_two (w.alloc (.cells #[.bool na, .slice ao la ca] 59)) (w.heap.size + 1) (by simp) (.bool nb) (.slice bo lb cb) 59
  refine ⟨?_, ?_, ?_, ?_⟩
  · rw [h.cell (p := ⟨w.heap.size, 0, none⟩) (by simp), cell_old _ _ _ (by simp)]; exact e1.1
  · rw [h.cell (p := ⟨w.heap.size, 1, none⟩) (by simp), cell_old _ _ _ (by simp)]; exact e1.2
  · rw [h.cell (p := ⟨w.heap.size + 1, 0, none⟩) (by simp)]; exact e2.1
  · rw [h.cell (p := ⟨w.heap.size + 1, 1, none⟩) (by simp)]; exact e2.2
theorem box2_below (w : World) (na nb : Bool) (ao bo : Option Addr) (la ca lb cb : Nat) : Below w.heap.size w (box2 w na nb ao bo la ca lb cb) := ((Below.refl _ _).alloc (Nat.le_refl _) _).alloc (by simp) _
theorem box2_size (w : World) (na nb : Bool) (ao bo : Option Addr) (la ca lb cb : Nat) : (box2 w na nb ao bo la ca lb cb).heap.size = w.heap.size + 2 := by simp [box2]

theorem field0 (b : Bool) (o : Option Addr) (l c : Nat) (W : World) : (Instr.field 59 (.agg #[.bool b, .slice o l c]) 0).run Try.prog W = .ok (.bool b) W := by kernel_rfl
theorem field1 (b : Bool) (o : Option Addr) (l c : Nat) (W : World) : (Instr.field 59 (.agg #[.bool b, .slice o l c]) 1).run Try.prog W = .ok (.slice o l c) W := by kernel_rfl
set_option maxHeartbeats 400000 in
theorem less_b (x y : Int) (na nb : Bool) (ao bo : Option Addr) (la ca lb cb : Nat) (w : World) (Hna : Hid (na = decide (x < 0))) (Hnb : Hid (nb = decide (y < 0))) (hX : Mg w ao la ca x.natAbs) (hY : Mg w bo lb cb y.natAbs) (hbig : Hid ((x - y).natAbs < 65536 ^ 64)) (hd : Hid (decide (x - y < 0) = decide (x < y))) :
    Calls Try.prog 45 #[.agg #[.bool na, .slice ao la ca], .agg #[.bool nb, .slice bo lb cb]] w fun e w' => e = .returned (.bool (decide (x < y))) ∧ Below w.heap.size w w' := by
  have hW0 := box2_below w na nb ao bo la ca lb cb
  have hWW := Below.refl (w.heap.size + 2) (box2 w na nb ao bo la ca lb cb)
  have hWs := box2_size w na nb ao bo la ca lb cb
  have hf0 := field0
  go_enter Try.func45, Try.ntmps45
  go_wp2
  go_region_held3 (fun w' => w'.cell? ⟨w.heap.size, 0, none⟩ = some (.bool na) ∧ w'.cell? ⟨w.heap.size, 1, none⟩ = some (.slice ao la ca) ∧ w'.cell? ⟨w.heap.size + 1, 0, none⟩ = some (.bool nb) ∧ w'.cell? ⟨w.heap.size + 1, 1, none⟩ = some (.slice bo lb cb)) (first | exact boxes2 hWW.drew | exact boxes2 hN1 | exact boxes2 hN2)
    (first
      | (go_at_call 50; refine (minus_b y nb bo lb cb _ Hnb.out (hY.below (Nat.le_refl _) hW0.drew)).mono ?_; rintro e w1 ⟨b1, ro, lr, cr, rfl, Hb1, hR, hB1⟩; have hN1 := hWW.drew.trans (hB1.mono (Nat.le_of_eq hWs.symm)); have hw1 := hW0.drew.trans (hB1.mono (Nat.le_of_lt (by rw [World.size_drew, hWs]; omega))))
      | (go_at_call 47; refine (plus_b x (-y) (x - y) na b1 ao ro la ca lr cr _ Hna.out Hb1.out (hX.below (Nat.le_refl _) hw1) hR (by omega) hbig.out).mono ?_; rintro e w2 ⟨b2, ro2, lr2, cr2, rfl, Hb2, hM2, hB2⟩; have hN2 := hN1.trans (hB2.mono (by have := hN1.size; omega)); have hw2 := hw1.trans (hB2.mono hw1.size)))
  go_wp2
  go_ret
  exact ⟨congrArg (fun b => Ending.returned (.bool b)) (Hb2.out.trans hd.out), hw2⟩
end Go.Proofs.Ytkanjgphmafjbaa.Wd
