/- The program's product. -/
import Derived.Test.YtiapkblebbcfbaaGreatNmE
namespace Go.Proofs.YtiapkblebbcfbaaGreat.Gl
open Go.RowKit
set_option linter.unusedVariables false
set_option linter.unusedSimpArgs false

theorem prd_second {a b : Sm} (h : b.ns.length = 0) : prdS a b = mkS (scl a b.k) := if_pos h
theorem prd_first {a b : Sm} (h : ¬ b.ns.length = 0) (k : a.ns.length = 0) : prdS a b = mkS (scl b a.k) := by unfold prdS; rw [if_neg h, if_pos k]
theorem prd_none {a b : Sm} (h : ¬ b.ns.length = 0) (k : ¬ a.ns.length = 0) : prdS a b = .er 90 := by unfold prdS; rw [if_neg h, if_neg k]
/-- what scale answers, stored in a block of the caller's -/
theorem LrS.stored {w w3 w4 : World} {B X : Nat} {s : Sm} {no : Option Addr} {n c : Nat} {z : Int} {v : Value} (h : LrS w3.heap.size w4 no n c (mkS (scl s z)) v) (hR : RdS w no n c s.ns) (hB : B ≤ w3.heap.size) (hN : NewA B no) (hX : X < w3.heap.size) (hXw : w.heap.size ≤ X) (hb : Below w.heap.size w w4) (v0 v1 v2 : Value) : LrB B (st3 w4 X v0 v1 v2) (mkS (scl s z)) v := by
  by_cases hf : (scl s z).fits = true
  · rw [mkS_yes hf] at h ⊢
    obtain ⟨m, d, g, e, ho⟩ := h
    have hg : w3.heap.size ≤ g := owns_ad ho _ rfl
    refine ⟨no, _, n, c, m, d, e, ⟨hR.below (Nat.le_refl _) (bel_st3 hb hXw v0 v1 v2), ?_⟩, hN, fun ad e => by cases e; show B ≤ g; omega⟩
    exact rdz_of_own2 (owns_st3 ho (fun k e => by cases e; show g ≠ X; omega) v0 v1 v2)
  · rw [mkS_no hf] at h ⊢
    exact h
theorem LrS.shape {B : Nat} {w : World} {r : Lr} {v : Value} {no : Option Addr} {n c : Nat} (h : LrS B w no n c r v) : ∃ no n c co m d k e, v = .tuple #[.agg #[.slice no n c, .slice co m d, .int .i64 k], .int .i64 e] := by
  cases r with
  | er e => exact ⟨none, 0, 0, none, 0, 0, 0, e, h⟩
  | ok s =>
    obtain ⟨m, d, g, e, h1⟩ := h
    exact ⟨no, n, c, _, m, d, s.k, 0, e⟩
set_option maxRecDepth 100000 in
set_option maxHeartbeats 4000000 in
theorem product_at (a b : Sm) (nm : ByteArray → Bool) (B : Nat) (ao aco bo bco : Option Addr) (an ac am ad bn bc bm bd : Nat) (w : World)
    (hA : RdSm w a ao aco an ac am ad) (hB : RdSm w b bo bco bn bc bm bd) (gA : a.good nm 500) (gB : b.good nm 500) (nA : NewA B ao) (nB : NewA B bo) (hBw : B ≤ w.heap.size) :
    Calls Tryz.prog 38 #[sumV a ao aco an ac am ad, sumV b bo bco bn bc bm bd] w fun e w' => ∃ v, e = .returned v ∧ LrB B w' (prdS a b) v ∧ Below w.heap.size w w' := by
  have hka := Sm.fits.k gA.fit
  have hkb := Sm.fits.k gB.fit
  have hln : a.ns.length = an := hA.1.eqlen
  have hlb : b.ns.length = bn := hB.1.eqlen
  have S1 : Hid (∀ w', Below w.heap.size w w' → Calls Tryz.prog 66 #[sumV a ao aco an ac am ad, .int .i64 b.k] w' fun e w'' => ∃ v, e = .returned v ∧ LrS w'.heap.size w'' ao an ac (mkS (scl a b.k)) v ∧ Below w'.heap.size w' w'') := fun w' h => scale_at a b.k nm ao aco an ac am ad w' (hA.below h) gA hkb
  have S2 : Hid (∀ w', Below w.heap.size w w' → Calls Tryz.prog 66 #[sumV b bo bco bn bc bm bd, .int .i64 a.k] w' fun e w'' => ∃ v, e = .returned v ∧ LrS w'.heap.size w'' bo bn bc (mkS (scl b a.k)) v ∧ Below w'.heap.size w' w'') := fun w' h => scale_at b a.k nm bo bco bn bc bm bd w' (hB.below h) gB hka
  have P1 := mkHid (@prd_second a b)
  have P2 := mkHid (@prd_first a b)
  have P3 := mkHid (@prd_none a b)
  rw [hln] at P2 P3
  rw [hlb] at P1 P2 P3
  have hR1 := rb_new w #[.slice ao an ac, .slice aco am ad, .int .i64 a.k] 54
  have hB1 := bal w (.cells #[.slice ao an ac, .slice aco am ad, .int .i64 a.k] 54)
  generalize hw1 : w.alloc (.cells #[.slice ao an ac, .slice aco am ad, .int .i64 a.k] 54) = w1 at hR1 hB1
  have hs1 : w1.heap.size = w.heap.size + 1 := by rw [← hw1]; simp
  have hR2 := rb_new w1 #[.slice bo bn bc, .slice bco bm bd, .int .i64 b.k] 54
  have hB2 := bt2 hB1 (bal w1 (.cells #[.slice bo bn bc, .slice bco bm bd, .int .i64 b.k] 54))
  have hR12 := hR1.keep (bal w1 (.cells #[.slice bo bn bc, .slice bco bm bd, .int .i64 b.k] 54))
  generalize hw2 : w1.alloc (.cells #[.slice bo bn bc, .slice bco bm bd, .int .i64 b.k] 54) = w2 at hR2 hB2 hR12
  have hs2 : w2.heap.size = w.heap.size + 2 := by rw [← hw2]; simp [hs1]
  have hR3 := rb_new w2 zS 54
  have hB3 := bt2 hB2 (bal w2 (.cells zS 54))
  have hR13 := hR12.keep (bal w2 (.cells zS 54))
  have hR23 := hR2.keep (bal w2 (.cells zS 54))
  generalize hw3 : w2.alloc (.cells zS 54) = w3 at hR3 hB3 hR13 hR23
  have hs3 : w.heap.size + 3 ≤ w3.heap.size := by rw [← hw3]; simp [hs2]
  rw [hs1] at hR23
  rw [hs2, show w.heap.size + 2 = w.heap.size + 1 + 1 from rfl] at hR3
  have HW : Hid (((w.alloc (.cells #[.slice ao an ac, .slice aco am ad, .int .i64 a.k] 54)).alloc (.cells #[.slice bo bn bc, .slice bco bm bd, .int .i64 b.k] 54)).alloc (.cells zS 54) = w3) := by rw [hw1, hw2, hw3]; exact rfl
  clear hw1 hw2 hw3 hs1 hs2 hR12 hR2 hB2 hB1 hR1 gA gB hln hlb
  have hA1 := mkHid hA.1
  have hB1 := mkHid hB.1
  clear hA hB
  by_cases h0 : bn = 0
  · have HP := mkHid (P1.out h0)
    subst h0
    go_enter Tryz.func38, Tryz.ntmps38
    go_wp2_with (fail)
    have eW := HW.out
    unfold zS at eW
    rw [eW]
    clear eW HW P1 P2 P3 S2
    refine (S1.out w3 hB3).mono ?_
    rintro e w4 ⟨v, rfl, hL, hB4⟩
    obtain ⟨xo, xn, xc, yo, yn, yc, k, e, rfl⟩ := hL.shape
    have hL9 := mkHid (LrS.stored hL hA1.out (by omega) nA (X := w.heap.size + 1 + 1) (by omega) (by omega) (bt2 hB3 hB4) (.slice xo xn xc) (.slice yo yn yc) (.int .i64 k))
    have hR4 := hR3.keep hB4
    have hR9 := rb_three hR4 rfl (.slice xo xn xc) (.slice yo yn yc) (.int .i64 k)
    have hB9 := bel_st3 (B := w.heap.size + 1 + 1) (bt2 hB3 hB4) (by omega) (.slice xo xn xc) (.slice yo yn yc) (.int .i64 k)
    obtain ⟨r0, s0⟩ := txcell hR4 0 _ rfl
    obtain ⟨r1, s1⟩ := txcell hR4 1 _ rfl
    obtain ⟨r2, s2⟩ := txcell hR4 2 _ rfl
    clear S1 hL
    go_wp2_with (fail)
    obtain ⟨k0, -⟩ := txcell hR9 0 _ rfl
    obtain ⟨k1, -⟩ := txcell hR9 1 _ rfl
    obtain ⟨k2, -⟩ := txcell hR9 2 _ rfl
    exact bodyPost_ret (v := .tuple #[.agg #[.slice xo xn xc, .slice yo yn yc, .int .i64 k], .int .i64 e]) (by simp [results, Tryz.results38, go_sem, k0, k1, k2]) rfl ⟨_, rfl, by rw [HP.out]; exact hL9.out, hB9⟩
  · have h0' : ((bn : Int) == 0) = false := by rw [beq_eq_false_iff_ne]; omega
    by_cases h1 : an = 0
    · have HP := mkHid (P2.out h0 h1)
      subst h1
      go_enter Tryz.func38, Tryz.ntmps38
      go_wp2_with (fail)
      have eW := HW.out
      unfold zS at eW
      rw [eW]
      clear eW HW P1 P2 P3 S1
      refine (S2.out w3 hB3).mono ?_
      rintro e w4 ⟨v, rfl, hL, hB4⟩
      obtain ⟨xo, xn, xc, yo, yn, yc, k, e, rfl⟩ := hL.shape
      have hL9 := mkHid (LrS.stored hL hB1.out (by omega) nB (X := w.heap.size + 1 + 1) (by omega) (by omega) (bt2 hB3 hB4) (.slice xo xn xc) (.slice yo yn yc) (.int .i64 k))
      have hR4 := hR3.keep hB4
      have hR9 := rb_three hR4 rfl (.slice xo xn xc) (.slice yo yn yc) (.int .i64 k)
      have hB9 := bel_st3 (B := w.heap.size + 1 + 1) (bt2 hB3 hB4) (by omega) (.slice xo xn xc) (.slice yo yn yc) (.int .i64 k)
      obtain ⟨r0, s0⟩ := txcell hR4 0 _ rfl
      obtain ⟨r1, s1⟩ := txcell hR4 1 _ rfl
      obtain ⟨r2, s2⟩ := txcell hR4 2 _ rfl
      clear S2 hL
      go_wp2_with (fail)
      obtain ⟨k0, -⟩ := txcell hR9 0 _ rfl
      obtain ⟨k1, -⟩ := txcell hR9 1 _ rfl
      obtain ⟨k2, -⟩ := txcell hR9 2 _ rfl
      exact bodyPost_ret (v := .tuple #[.agg #[.slice xo xn xc, .slice yo yn yc, .int .i64 k], .int .i64 e]) (by simp [results, Tryz.results38, go_sem, k0, k1, k2]) rfl ⟨_, rfl, by rw [HP.out]; exact hL9.out, hB9⟩
    · have h1' : ((an : Int) == 0) = false := by rw [beq_eq_false_iff_ne]; omega
      have HP := mkHid (P3.out h0 h1)
      go_enter Tryz.func38, Tryz.ntmps38
      go_wp2_with (fail)
      have eW := HW.out
      unfold zS at eW
      rw [eW]
      obtain ⟨k0, -⟩ := txcell hR3 0 _ rfl
      obtain ⟨k1, -⟩ := txcell hR3 1 _ rfl
      obtain ⟨k2, -⟩ := txcell hR3 2 _ rfl
      exact bodyPost_ret (v := .tuple #[.agg zS, .int .i64 90]) (by simp [results, Tryz.results38, go_sem, k0, k1, k2]) rfl ⟨_, rfl, by rw [HP.out]; rfl, hB3⟩
end Go.Proofs.YtiapkblebbcfbaaGreat.Gl
