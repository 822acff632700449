/- The document's wide numbers: sums, comparisons. -/
import Derived.Test.YtkanjgphmafjbaaWideD
namespace Go.Proofs.Ytkanjgphmafjbaa.Wd
open Go.RowKit
set_option linter.unusedVariables false

theorem mg_le {w : World} {ao bo : Option Addr} {la ca lb cb : Nat} {A B : List Nat} (hA : Dg w ao la ca A) (hB : Dg w bo lb cb B) (nB : Nm B) (h : val B ≤ val A) : lb ≤ la := by
  have h1 := val_lt hA.small
  rw [hA.eqlen] at h1
  have := len_le nB (K := la) (by omega)
  rw [hB.eqlen] at this
  exact this

theorem cell_old (W : World) (o : Obj) (p : Addr) (h : p.block < W.heap.size) : (W.alloc o).cell? p = W.cell? p := World.cell?_of_block (Below.heap_alloc _ _ _ h)
theorem cell_two (W : World) (n : Nat) (h : W.heap.size = n) (u v : Value) (t : TypeId) : (W.alloc (.cells #[u, v] t)).cell? ⟨n, 0, none⟩ = some u ∧ (W.alloc (.cells #[u, v] t)).cell? ⟨n, 1, none⟩ = some v := by
  subst h; exact ⟨by simp, by simp⟩
theorem free_two (W : World) (n : Nat) (h : W.heap.size = n) (u v : Value) (t : TypeId) : (W.alloc (.cells #[u, v] t)).frozen? ⟨n, 0, none⟩ = false ∧ (W.alloc (.cells #[u, v] t)).frozen? ⟨n, 1, none⟩ = false := by
  subst h; exact ⟨by simp, by simp⟩

/-- the world behind the three new blocks with which Plus and its like begin -/
abbrev box3 (w : World) (na nb : Bool) (ao bo : Option Addr) (la ca lb cb : Nat) : World :=
  ((w.alloc (.cells #[.bool na, .slice ao la ca] 59)).alloc (.cells #[.bool nb, .slice bo lb cb] 59)).alloc (.cells #[.bool false, .slice none 0 0] 59)

/-- the cells of the new blocks -/
theorem boxes {w W' : World} {na nb : Bool} {ao bo : Option Addr} {la ca lb cb : Nat} (h : Below (w.heap.size + 2) (box3 w na nb ao bo la ca lb cb) W') :
    W'.cell? ⟨w.heap.size, 0, none⟩ = some (.bool na) ∧ W'.cell? ⟨w.heap.size, 1, none⟩ = some (.slice ao la ca) ∧ W'.cell? ⟨w.heap.size + 1, 0, none⟩ = some (.bool nb) ∧ W'.cell? ⟨w.heap.size + 1, 1, none⟩ = some (.slice bo lb cb) := by
  have e1 := cell_two w _ rfl (.bool na) (.slice ao la ca) 59
  have e2 := cell_two (w.alloc (.cells #[.bool na, .slice ao la ca] 59)) (w.heap.size + 1) (by simp) (.bool nb) (.slice bo lb cb) 59
  refine ⟨?_, ?_, ?_, ?_⟩
  · rw [h.cell (p := ⟨w.heap.size, 0, none⟩) (by simp), cell_old _ _ _ (by simp; omega), cell_old _ _ _ (by simp)]; exact e1.1
  · rw [h.cell (p := ⟨w.heap.size, 1, none⟩) (by simp), cell_old _ _ _ (by simp; omega), cell_old _ _ _ (by simp)]; exact e1.2
  · rw [h.cell (p := ⟨w.heap.size + 1, 0, none⟩) (by simp), cell_old _ _ _ (by simp)]; exact e2.1
  · rw [h.cell (p := ⟨w.heap.size + 1, 1, none⟩) (by simp), cell_old _ _ _ (by simp)]; exact e2.2
theorem place {w W' : World} {na nb : Bool} {ao bo : Option Addr} {la ca lb cb : Nat} (h : Below (w.heap.size + 3) (box3 w na nb ao bo la ca lb cb) W') :
    W'.cell? ⟨w.heap.size + 1 + 1, 0, none⟩ = some (.bool false) ∧ W'.cell? ⟨w.heap.size + 1 + 1, 1, none⟩ = some (.slice none 0 0) ∧ W'.frozen? ⟨w.heap.size + 1 + 1, 0, none⟩ = false ∧ W'.frozen? ⟨w.heap.size + 1 + 1, 1, none⟩ = false := by
  have e1 := cell_two ((w.alloc (.cells #[.bool na, .slice ao la ca] 59)).alloc (.cells #[.bool nb, .slice bo lb cb] 59)) (w.heap.size + 1 + 1) (by simp) (.bool false) (.slice none 0 0) 59
  have e2 := free_two ((w.alloc (.cells #[.bool na, .slice ao la ca] 59)).alloc (.cells #[.bool nb, .slice bo lb cb] 59)) (w.heap.size + 1 + 1) (by simp) (.bool false) (.slice none 0 0) 59
  refine ⟨?_, ?_, ?_, ?_⟩
  · rw [h.cell (p := ⟨w.heap.size + 1 + 1, 0, none⟩) (by simp)]; exact e1.1
  · rw [h.cell (p := ⟨w.heap.size + 1 + 1, 1, none⟩) (by simp)]; exact e1.2
  · rw [h.frozen (p := ⟨w.heap.size + 1 + 1, 0, none⟩) (by simp)]; exact e2.1
  · rw [h.frozen (p := ⟨w.heap.size + 1 + 1, 1, none⟩) (by simp)]; exact e2.2
theorem box3_below (w : World) (na nb : Bool) (ao bo : Option Addr) (la ca lb cb : Nat) : Below w.heap.size w (box3 w na nb ao bo la ca lb cb) :=
  (((Below.refl _ _).alloc (Nat.le_refl _) _).alloc (by simp) _).alloc (by simp; omega) _
theorem box3_size (w : World) (na nb : Bool) (ao bo : Option Addr) (la ca lb cb : Nat) : (box3 w na nb ao bo la ca lb cb).heap.size = w.heap.size + 3 := by simp [box3]
theorem two_below {B : Nat} {W0 W : World} (h : Below B W0 W) {n : Nat} (hn : B ≤ n) (u v : Value) : Below B W0 ((W.setCell ⟨n, 0, none⟩ u).setCell ⟨n, 1, none⟩ v) := (h.setCell (p := ⟨n, 0, none⟩) hn u).setCell (p := ⟨n, 1, none⟩) hn v

set_option maxHeartbeats 4000000 in
theorem sum_same (b : Bool) (x : Int) (ao bo : Option Addr) (la ca lb cb : Nat) (A B : List Nat) (w : World) (hA : Dg w ao la ca A) (hB : Dg w bo lb cb B) (ha : la ≤ 64) (hb : lb ≤ 64) (hx : Hid (x = if b then -((val A + val B : Nat) : Int) else ((val A + val B : Nat) : Int))) (hbig : Hid (val A + val B < 65536 ^ 64)) :
    Calls Try.prog 47 #[.agg #[.bool b, .slice ao la ca], .agg #[.bool b, .slice bo lb cb]] w fun e w' => ∃ ro lr cr, e = .returned (.agg #[.bool (decide (x < 0)), .slice ro lr cr]) ∧ Mg w' ro lr cr x.natAbs ∧ Below w.heap.size w w' := by
  have hW0 := box3_below w b b ao bo la ca lb cb
  have hWW := Below.refl (w.heap.size + 3) (box3 w b b ao bo la ca lb cb)
  have hWs := box3_size w b b ao bo la ca lb cb
  have hbb : (b == b) = true := by simp
  go_enter Try.func47, Try.ntmps47
  go_wp2
  go_region_held3 (fun w' => w'.cell? ⟨w.heap.size, 0, none⟩ = some (.bool b) ∧ w'.cell? ⟨w.heap.size, 1, none⟩ = some (.slice ao la ca) ∧ w'.cell? ⟨w.heap.size + 1, 0, none⟩ = some (.bool b) ∧ w'.cell? ⟨w.heap.size + 1, 1, none⟩ = some (.slice bo lb cb)) (first | exact boxes (hWW.drew.mono (by omega)) | exact boxes (hN1.mono (by omega)) | exact boxes (hN2.mono (by omega)) | exact boxes (two_below (hN2.mono (by omega)) (by omega) _ _))
    (first
      | (go_at_call 54; refine (plus_at b b ao bo la ca lb cb A B _ (hA.below (Nat.le_refl _) hW0.drew) (hB.below (Nat.le_refl _) hW0.drew) ha hb).mono ?_; rintro e w1 ⟨ro, lr, cr, R, rfl, hR, hvR, hB1⟩; have hN1 := hWW.drew.trans (hB1.mono (by have := hWW.drew.size; simp only [World.size_drew] at *; omega)); have hw1 := hW0.drew.trans (hB1.mono (by have := hW0.drew.size; simp only [World.size_drew] at *; omega)))
      | (go_at_call 53; refine (trimmed_is b _ _ _ R _ hR x (by rw [hvR]; exact hx.out) (by rw [hvR]; exact hbig.out)).mono ?_; rintro e w2 ⟨ro2, lr2, cr2, rfl, hM2, hB2⟩; have hN2 := hN1.trans (hB2.mono (by have := hN1.size; omega)); have hw2 := hw1.trans (hB2.mono (by have := hw1.size; omega)); obtain ⟨k0, k1, kf0, kf1⟩ := place hN2))
  go_wp2
  exact bodyPost_ret (v := .agg #[.bool (decide (x < 0)), .slice ro2 lr2 cr2]) (by simp [results, Try.results47, go_sem, k0, k1]) rfl ⟨ro2, lr2, cr2, rfl, hM2.stored k0 k1 _, two_below hw2 (by omega) _ _⟩

set_option maxHeartbeats 4000000 in
theorem sum_left (b : Bool) (x : Int) (ao bo : Option Addr) (la ca lb cb : Nat) (A B : List Nat) (w : World) (hA : Dg w ao la ca A) (hB : Dg w bo lb cb B) (nB : Nm B) (ha : la ≤ 64) (hle : Hid (val B ≤ val A)) (hx : Hid (x = if b then -((val A - val B : Nat) : Int) else ((val A - val B : Nat) : Int))) (hbig : Hid (val A - val B < 65536 ^ 64)) :
    Calls Try.prog 47 #[.agg #[.bool b, .slice ao la ca], .agg #[.bool (!b), .slice bo lb cb]] w fun e w' => ∃ ro lr cr, e = .returned (.agg #[.bool (decide (x < 0)), .slice ro lr cr]) ∧ Mg w' ro lr cr x.natAbs ∧ Below w.heap.size w w' := by
  have hW0 := box3_below w b (!b) ao bo la ca lb cb
  have hWW := Below.refl (w.heap.size + 3) (box3 w b (!b) ao bo la ca lb cb)
  have hWs := box3_size w b (!b) ao bo la ca lb cb
  have hbb : (b == !b) = false := by cases b <;> rfl
  have hll := mg_le hA hB nB hle.out
  have hcp : ∃ c, cmpN (val A) (val B) = c ∧ 0 ≤ c := ⟨_, rfl, by have := hle.out; unfold cmpN; split <;> first | omega | (split <;> omega)⟩
  obtain ⟨c, hcmp', hc0⟩ := hcp
  have hcmp : Hid (cmpN (val A) (val B) = c) := hcmp'
  clear hcmp'
  go_enter Try.func47, Try.ntmps47
  go_wp2_with (go_at_call 49; refine (size_at b (!b) ao bo la ca lb cb A B _ (hA.below (Nat.le_refl _) hW0) (hB.below (Nat.le_refl _) hW0)).mono ?_; rintro e w0 ⟨rfl, hB0⟩; rw [hcmp.out]; have hN0 := hWW.trans (hB0.mono (Nat.le_of_eq hWs.symm)); have hw0 := hW0.trans (hB0.mono (Nat.le_of_lt (by rw [hWs]; omega))); have hz0 := hN0.size; obtain ⟨q0, q1, q2, q3⟩ := boxes (hN0.mono (by omega)))
  go_region_held3 (fun w' => w'.cell? ⟨w.heap.size, 0, none⟩ = some (.bool b) ∧ w'.cell? ⟨w.heap.size, 1, none⟩ = some (.slice ao la ca) ∧ w'.cell? ⟨w.heap.size + 1, 0, none⟩ = some (.bool (!b)) ∧ w'.cell? ⟨w.heap.size + 1, 1, none⟩ = some (.slice bo lb cb)) (first | exact boxes (hN0.drew.mono (by omega)) | exact boxes (hN1.mono (by omega)) | exact boxes (hN2.mono (by omega)) | exact boxes (two_below (hN2.mono (by omega)) (by omega) _ _))
    (first
      | (go_at_call 55; refine (minus_abs b (!b) ao bo la ca lb cb A B _ (hA.below (Nat.le_refl _) hw0.drew) (hB.below (Nat.le_refl _) hw0.drew) ha hll hle).mono ?_; rintro e w1 ⟨ro, lr, cr, R, rfl, hR, hvR, hB1⟩; have hN1 := hN0.drew.trans (hB1.mono (by have := hN0.drew.size; simp only [World.size_drew] at *; omega)); have hw1 := hw0.drew.trans (hB1.mono (by have := hw0.drew.size; simp only [World.size_drew] at *; omega)))
      | (go_at_call 53; refine (trimmed_is b _ _ _ R _ hR x (by rw [hvR]; exact hx.out) (by rw [hvR]; exact hbig.out)).mono ?_; rintro e w2 ⟨ro2, lr2, cr2, rfl, hM2, hB2⟩; have hN2 := hN1.trans (hB2.mono (by have := hN1.size; omega)); have hw2 := hw1.trans (hB2.mono (by have := hw1.size; omega)); obtain ⟨k0, k1, kf0, kf1⟩ := place hN2))
  go_wp2
  exact bodyPost_ret (v := .agg #[.bool (decide (x < 0)), .slice ro2 lr2 cr2]) (by simp [results, Try.results47, go_sem, k0, k1]) rfl ⟨ro2, lr2, cr2, rfl, hM2.stored k0 k1 _, two_below hw2 (by omega) _ _⟩

set_option maxHeartbeats 4000000 in
theorem sum_right (b : Bool) (x : Int) (ao bo : Option Addr) (la ca lb cb : Nat) (A B : List Nat) (w : World) (hA : Dg w ao la ca A) (hB : Dg w bo lb cb B) (nA : Nm A) (hb : lb ≤ 64) (hlt : Hid (val A < val B)) (hx : Hid (x = if b then -((val B - val A : Nat) : Int) else ((val B - val A : Nat) : Int))) (hbig : Hid (val B - val A < 65536 ^ 64)) :
    Calls Try.prog 47 #[.agg #[.bool (!b), .slice ao la ca], .agg #[.bool b, .slice bo lb cb]] w fun e w' => ∃ ro lr cr, e = .returned (.agg #[.bool (decide (x < 0)), .slice ro lr cr]) ∧ Mg w' ro lr cr x.natAbs ∧ Below w.heap.size w w' := by
  have hW0 := box3_below w (!b) b ao bo la ca lb cb
  have hWW := Below.refl (w.heap.size + 3) (box3 w (!b) b ao bo la ca lb cb)
  have hWs := box3_size w (!b) b ao bo la ca lb cb
  have hbb : ((!b) == b) = false := by cases b <;> rfl
  have hle : Hid (val A ≤ val B) := Nat.le_of_lt hlt.out
  have hll := mg_le hB hA nA hle.out
  have hcp : ∃ c, cmpN (val A) (val B) = c ∧ ¬ 0 ≤ c := ⟨_, rfl, by have := hlt.out; unfold cmpN; rw [if_pos this]; omega⟩
  obtain ⟨c, hcmp', hc0⟩ := hcp
  have hcmp : Hid (cmpN (val A) (val B) = c) := hcmp'
  clear hcmp'
  go_enter Try.func47, Try.ntmps47
  go_wp2_with (go_at_call 49; refine (size_at (!b) b ao bo la ca lb cb A B _ (hA.below (Nat.le_refl _) hW0) (hB.below (Nat.le_refl _) hW0)).mono ?_; rintro e w0 ⟨rfl, hB0⟩; rw [hcmp.out]; have hN0 := hWW.trans (hB0.mono (Nat.le_of_eq hWs.symm)); have hw0 := hW0.trans (hB0.mono (Nat.le_of_lt (by rw [hWs]; omega))); have hz0 := hN0.size; obtain ⟨q0, q1, q2, q3⟩ := boxes (hN0.mono (by omega)))
  go_region_held3 (fun w' => w'.cell? ⟨w.heap.size, 0, none⟩ = some (.bool (!b)) ∧ w'.cell? ⟨w.heap.size, 1, none⟩ = some (.slice ao la ca) ∧ w'.cell? ⟨w.heap.size + 1, 0, none⟩ = some (.bool b) ∧ w'.cell? ⟨w.heap.size + 1, 1, none⟩ = some (.slice bo lb cb)) (first | exact boxes (hN0.drew.mono (by omega)) | exact boxes (hN1.mono (by omega)) | exact boxes (hN2.mono (by omega)) | exact boxes (two_below (hN2.mono (by omega)) (by omega) _ _))
    (first
      | (go_at_call 55; refine (minus_abs b (!b) bo ao lb cb la ca B A _ (hB.below (Nat.le_refl _) hw0.drew) (hA.below (Nat.le_refl _) hw0.drew) hb hll hle).mono ?_; rintro e w1 ⟨ro, lr, cr, R, rfl, hR, hvR, hB1⟩; have hN1 := hN0.drew.trans (hB1.mono (by have := hN0.drew.size; simp only [World.size_drew] at *; omega)); have hw1 := hw0.drew.trans (hB1.mono (by have := hw0.drew.size; simp only [World.size_drew] at *; omega)))
      | (go_at_call 53; refine (trimmed_is b _ _ _ R _ hR x (by rw [hvR]; exact hx.out) (by rw [hvR]; exact hbig.out)).mono ?_; rintro e w2 ⟨ro2, lr2, cr2, rfl, hM2, hB2⟩; have hN2 := hN1.trans (hB2.mono (by have := hN1.size; omega)); have hw2 := hw1.trans (hB2.mono (by have := hw1.size; omega)); obtain ⟨k0, k1, kf0, kf1⟩ := place hN2))
  go_wp2
  exact bodyPost_ret (v := .agg #[.bool (decide (x < 0)), .slice ro2 lr2 cr2]) (by simp [results, Try.results47, go_sem, k0, k1]) rfl ⟨ro2, lr2, cr2, rfl, hM2.stored k0 k1 _, two_below hw2 (by omega) _ _⟩

end Go.Proofs.Ytkanjgphmafjbaa.Wd
