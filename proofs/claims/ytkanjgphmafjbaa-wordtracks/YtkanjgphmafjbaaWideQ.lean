/- The document's wide numbers, none below 0; the four of them that a quotient goes by. -/
import Derived.Test.YtkanjgphmafjbaaWideH
namespace Go.Proofs.Ytkanjgphmafjbaa.Wd
open Go.RowKit
set_option linter.unusedVariables false

theorem plusN (x y : Nat) (ao bo : Option Addr) (la ca lb cb : Nat) (w : World) (hX : Mg w ao la ca x) (hY : Mg w bo lb cb y) (hb : x + y < 340282366920938463463374607431768211456) :
    Calls Try.prog 47 #[.agg #[.bool false, .slice ao la ca], .agg #[.bool false, .slice bo lb cb]] w fun e w' => ∃ ro lr cr, e = .returned (.agg #[.bool false, .slice ro lr cr]) ∧ Mg w' ro lr cr (x + y) ∧ Below w.heap.size w w' := by
  refine (plus_b (x : Int) (y : Int) ((x + y : Nat) : Int) false false ao bo la ca lb cb w (decide_eq_false (by omega)).symm (decide_eq_false (by omega)).symm (by rw [Int.natAbs_natCast]; exact hX) (by rw [Int.natAbs_natCast]; exact hY) (by omega) (big64 _ (by omega))).mono ?_
  rintro e w' ⟨b, ro, lr, cr, rfl, h1, h2, h3⟩
  have e1 : b = false := h1.out.trans (decide_eq_false (by omega))
  subst e1
  rw [Int.natAbs_natCast] at h2
  exact ⟨ro, lr, cr, rfl, h2, h3⟩
theorem ofN (n : Nat) (w : World) (hn : n ≤ 9223372036854775807) :
    Calls Try.prog 46 #[.int .i64 n] w fun e w' => ∃ ro lr cr, e = .returned (.agg #[.bool false, .slice ro lr cr]) ∧ Mg w' ro lr cr n ∧ Below w.heap.size w w' := by
  refine (of_b (n : Int) w (by omega) (by omega)).mono ?_
  rintro e w' ⟨b, ro, lr, cr, rfl, h1, h2, h3⟩
  have e1 : b = false := h1.out.trans (decide_eq_false (by omega))
  subst e1
  rw [Int.natAbs_natCast] at h2
  exact ⟨ro, lr, cr, rfl, h2, h3⟩
/-- of a number its absolute value's digits -/
theorem ofAbs (a : Int) (w : World) (l0 : -9223372036854775808 ≤ a) (u0 : a ≤ 9223372036854775807) :
    Calls Try.prog 46 #[.int .i64 a] w fun e w' => ∃ b ro lr cr, e = .returned (.agg #[.bool b, .slice ro lr cr]) ∧ Mg w' ro lr cr a.natAbs ∧ Below w.heap.size w w' := by
  refine (of_b a w l0 u0).mono ?_
  rintro e w' ⟨b, ro, lr, cr, rfl, h1, h2, h3⟩
  exact ⟨b, ro, lr, cr, rfl, h2, h3⟩
theorem minusN (y : Nat) (bo : Option Addr) (lb cb : Nat) (w : World) (hY : Mg w bo lb cb y) :
    Calls Try.prog 50 #[.agg #[.bool false, .slice bo lb cb]] w fun e w' => ∃ b ro lr cr, e = .returned (.agg #[.bool b, .slice ro lr cr]) ∧ Hid (b = decide (-(y : Int) < 0)) ∧ Mg w' ro lr cr y ∧ Below w.heap.size w w' := by
  refine (minus_b (y : Int) false bo lb cb w (decide_eq_false (by omega)).symm (by rw [Int.natAbs_natCast]; exact hY)).mono ?_
  rintro e w' ⟨b, ro, lr, cr, rfl, h1, h2, h3⟩
  rw [Int.natAbs_neg, Int.natAbs_natCast] at h2
  exact ⟨b, ro, lr, cr, rfl, h1, h2, h3⟩
theorem subN (x y : Nat) (b : Bool) (ao bo : Option Addr) (la ca lb cb : Nat) (w : World) (hX : Mg w ao la ca x) (hY : Mg w bo lb cb y) (Hb : Hid (b = decide (-(y : Int) < 0))) (hle : y ≤ x) (hx : x < 340282366920938463463374607431768211456) :
    Calls Try.prog 47 #[.agg #[.bool false, .slice ao la ca], .agg #[.bool b, .slice bo lb cb]] w fun e w' => ∃ ro lr cr, e = .returned (.agg #[.bool false, .slice ro lr cr]) ∧ Mg w' ro lr cr (x - y) ∧ Below w.heap.size w w' := by
  refine (plus_b (x : Int) (-(y : Int)) ((x - y : Nat) : Int) false b ao bo la ca lb cb w (decide_eq_false (by omega)).symm Hb.out (by rw [Int.natAbs_natCast]; exact hX) (by rw [Int.natAbs_neg, Int.natAbs_natCast]; exact hY) (by omega) (big64 _ (by omega))).mono ?_
  rintro e w' ⟨b, ro, lr, cr, rfl, h1, h2, h3⟩
  have e1 : b = false := h1.out.trans (decide_eq_false (by omega))
  subst e1
  rw [Int.natAbs_natCast] at h2
  exact ⟨ro, lr, cr, rfl, h2, h3⟩
theorem sizeN (x y : Nat) (ao bo : Option Addr) (la ca lb cb : Nat) (w : World) (hX : Mg w ao la ca x) (hY : Mg w bo lb cb y) :
    Calls Try.prog 49 #[.agg #[.bool false, .slice ao la ca], .agg #[.bool false, .slice bo lb cb]] w fun e w' => ∃ c, e = .returned (.int .i64 c) ∧ Hid (0 ≤ c ↔ y ≤ x) ∧ Below w.heap.size w w' := by
  obtain ⟨A, hA, nA, vA, lA⟩ := hX
  obtain ⟨B, hB, nB, vB, lB⟩ := hY
  refine (size_at false false ao bo la ca lb cb A B w hA hB).mono ?_
  rintro e w' ⟨rfl, h⟩
  refine ⟨_, rfl, ?_, h⟩
  show _ ↔ _
  rw [vA, vB]
  unfold cmpN
  split
  · omega
  · split <;> omega

/-- a wide number, not below 0, in the variable at block p -/
structure Bx (w : World) (p : Nat) (ao : Option Addr) (l c : Nat) : Prop where
  c0 : w.cell? ⟨p, 0, none⟩ = some (.bool false)
  c1 : w.cell? ⟨p, 1, none⟩ = some (.slice ao l c)
  f0 : w.frozen? ⟨p, 0, none⟩ = false
  f1 : w.frozen? ⟨p, 1, none⟩ = false
theorem Bx.below {w w' : World} {p : Nat} {ao : Option Addr} {l c B : Nat} (h : Bx w p ao l c) (hb : Below B w w') (hp : p < B) : Bx w' p ao l c :=
  ⟨(hb.cell (p := ⟨p, 0, none⟩) hp).trans h.c0, (hb.cell (p := ⟨p, 1, none⟩) hp).trans h.c1, (hb.frozen (p := ⟨p, 0, none⟩) hp).trans h.f0, (hb.frozen (p := ⟨p, 1, none⟩) hp).trans h.f1⟩
/-- what a store of a wide number into the variable at block p makes of the world -/
abbrev put (w : World) (p : Nat) (ao : Option Addr) (l c : Nat) : World := (w.setCell ⟨p, 0, none⟩ (.bool false)).setCell ⟨p, 1, none⟩ (.slice ao l c)
theorem Bx.put_same {w : World} {p : Nat} {ao : Option Addr} {l c : Nat} (h : Bx w p ao l c) (ao' : Option Addr) (l' c' : Nat) : Bx (put w p ao' l' c') p ao' l' c' := by
  have e1 : (w.setCell ⟨p, 0, none⟩ (.bool false)).cell? ⟨p, 1, none⟩ = some (.slice ao l c) := by
    rw [World.cell?_setCell_other]
    · exact h.c1
    · simp
  have e0 : (w.setCell ⟨p, 0, none⟩ (.bool false)).cell? ⟨p, 0, none⟩ = some (.bool false) := World.cell?_setCell_same _ _ _ h.c0
  refine ⟨?_, World.cell?_setCell_same _ _ _ e1, by simpa using h.f0, by simpa using h.f1⟩
  rw [World.cell?_setCell_other]
  · exact e0
  · simp
theorem Bx.put_other {w : World} {p q : Nat} {ao : Option Addr} {l c : Nat} (h : Bx w q ao l c) (hne : p ≠ q) (ao' : Option Addr) (l' c' : Nat) : Bx (put w p ao' l' c') q ao l c := by
  refine ⟨?_, ?_, by simpa using h.f0, by simpa using h.f1⟩
  · rw [World.cell?_setCell_other _ _ _ _ (by simp), World.cell?_setCell_other _ _ _ _ (by simp)]; exact h.c0
  · rw [World.cell?_setCell_other _ _ _ _ (by simp), World.cell?_setCell_other _ _ _ _ (by simp)]; exact h.c1
theorem Mg.put {w : World} {p : Nat} {ao : Option Addr} {l c : Nat} (hp : Bx w p ao l c) {bo : Option Addr} {lb cb m : Nat} (h : Mg w bo lb cb m) (ao' : Option Addr) (l' c' : Nat) : Mg (put w p ao' l' c') bo lb cb m := h.stored hp.c0 hp.c1 _
theorem put_size (w : World) (p : Nat) (ao : Option Addr) (l c : Nat) : (put w p ao l c).heap.size = w.heap.size := by simp
theorem put_below {B : Nat} {W0 w : World} (h : Below B W0 w) {p : Nat} (hp : B ≤ p) (ao : Option Addr) (l c : Nat) : Below B W0 (put w p ao l c) := two_below h hp _ _

/-- the state of a quotient: x and y stay, q and r turn -/
structure St (w wr : World) (X Y Q R : Nat) (xo yo qo ro : Option Addr) (xl xc yl yc ql qc rl rc : Nat) (m d q r : Nat) : Prop where
  bx : Bx wr X xo xl xc
  bY : Bx wr Y yo yl yc
  bq : Bx wr Q qo ql qc
  br : Bx wr R ro rl rc
  mx : Mg wr xo xl xc m
  my : Mg wr yo yl yc d
  mq : Mg wr qo ql qc q
  mr : Mg wr ro rl rc r
  bel : Below w.heap.size w wr
  o0 : w.heap.size ≤ X
  o1 : X < Y
  o2 : Y < Q
  o3 : Q < R
  o4 : R < wr.heap.size
theorem St.below {w wr w' : World} {X Y Q R : Nat} {xo yo qo ro : Option Addr} {xl xc yl yc ql qc rl rc m d q r : Nat} (h : St w wr X Y Q R xo yo qo ro xl xc yl yc ql qc rl rc m d q r) (hb : Below wr.heap.size wr w') : St w w' X Y Q R xo yo qo ro xl xc yl yc ql qc rl rc m d q r := by
  have h1 := h.o1
  have h2 := h.o2
  have h3 := h.o3
  have h4 := h.o4
  exact ⟨h.bx.below hb (by omega), h.bY.below hb (by omega), h.bq.below hb (by omega), h.br.below hb (by omega), h.mx.below (Nat.le_refl _) hb, h.my.below (Nat.le_refl _) hb, h.mq.below (Nat.le_refl _) hb, h.mr.below (Nat.le_refl _) hb,
    h.bel.trans (hb.mono h.bel.size), h.o0, h.o1, h.o2, h.o3, Nat.lt_of_lt_of_le h.o4 hb.size⟩
theorem St.setR {w wr : World} {X Y Q R : Nat} {xo yo qo ro : Option Addr} {xl xc yl yc ql qc rl rc m d q r : Nat} (h : St w wr X Y Q R xo yo qo ro xl xc yl yc ql qc rl rc m d q r) {ro' : Option Addr} {rl' rc' r' : Nat} (hr : Mg wr ro' rl' rc' r') : St w (put wr R ro' rl' rc') X Y Q R xo yo qo ro' xl xc yl yc ql qc rl' rc' m d q r' := by
  have h1 := h.o1
  have h2 := h.o2
  have h3 := h.o3
  have h0 := h.o0
  exact ⟨h.bx.put_other (by omega) _ _ _, h.bY.put_other (by omega) _ _ _, h.bq.put_other (by omega) _ _ _, h.br.put_same _ _ _, Mg.put h.br h.mx _ _ _, Mg.put h.br h.my _ _ _, Mg.put h.br h.mq _ _ _, Mg.put h.br hr _ _ _, put_below h.bel (by omega) _ _ _, h.o0, h.o1, h.o2, h.o3, by rw [put_size]; exact h.o4⟩
theorem St.setQ {w wr : World} {X Y Q R : Nat} {xo yo qo ro : Option Addr} {xl xc yl yc ql qc rl rc m d q r : Nat} (h : St w wr X Y Q R xo yo qo ro xl xc yl yc ql qc rl rc m d q r) {qo' : Option Addr} {ql' qc' q' : Nat} (hq : Mg wr qo' ql' qc' q') : St w (put wr Q qo' ql' qc') X Y Q R xo yo qo' ro xl xc yl yc ql' qc' rl rc m d q' r := by
  have h1 := h.o1
  have h2 := h.o2
  have h3 := h.o3
  have h0 := h.o0
  exact ⟨h.bx.put_other (by omega) _ _ _, h.bY.put_other (by omega) _ _ _, h.bq.put_same _ _ _, h.br.put_other (by omega) _ _ _, Mg.put h.bq h.mx _ _ _, Mg.put h.bq h.my _ _ _, Mg.put h.bq hq _ _ _, Mg.put h.bq h.mr _ _ _, put_below h.bel (by omega) _ _ _, h.o0, h.o1, h.o2, h.o3, by rw [put_size]; exact h.o4⟩
end Go.Proofs.Ytkanjgphmafjbaa.Wd
