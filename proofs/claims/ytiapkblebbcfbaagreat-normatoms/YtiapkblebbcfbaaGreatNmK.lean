/- The program's Linear, isName, rises. -/
import Derived.Test.YtiapkblebbcfbaaGreatNmJ
import Derived.Test.YtiapkblebbcfbaaGreatNdX
namespace Go.Proofs.YtiapkblebbcfbaaGreat.Gl
open Go.RowKit
set_option linter.unusedVariables false
set_option linter.unusedSimpArgs false

/-- the sum of a term, or the first error -/
noncomputable def plin (t : Tm) : Lr := if chkT nmB t = 0 then lin t else .er (chkT nmB t)
theorem plin_ok {t : Tm} (h : chkT nmB t = 0) : plin t = lin t := if_pos h
theorem plin_no {t : Tm} (h : ¬ chkT nmB t = 0) : plin t = .er (chkT nmB t) := if_neg h
/-- four results -/
def Lr4 (w' : World) (r : Lr) (v : Value) : Prop :=
  match r with
  | .er e => v = .tuple #[.slice none 0 0, .slice none 0 0, .int .i64 0, .int .i64 e]
  | .ok s => ∃ no co n c m d, v = .tuple #[.slice no n c, .slice co m d, .int .i64 s.k, .int .i64 0] ∧ RdSm w' s no co n c m d
theorem lr4_of {B : Nat} {w : World} {r : Lr} {no co : Option Addr} {n c m d : Nat} {k e : Int} (h : LrB B w r (.tuple #[.agg #[.slice no n c, .slice co m d, .int .i64 k], .int .i64 e])) : Lr4 w r (.tuple #[.slice no n c, .slice co m d, .int .i64 k, .int .i64 e]) := by
  cases r with
  | er x =>
    have h : Value.tuple #[.agg #[.slice no n c, .slice co m d, .int .i64 k], .int .i64 e] = .tuple #[.agg zS, .int .i64 x] := h
    cases h
    rfl
  | ok s =>
    obtain ⟨no', co', n', c', m', d', e', hr, -, -⟩ := h
    cases e'
    exact ⟨_, _, _, _, _, _, rfl, hr⟩
theorem Lr4.below {w w' : World} {r : Lr} {v : Value} (h : Lr4 w r v) (hb : Below w.heap.size w w') : Lr4 w' r v := by
  cases r with
  | er e => exact h
  | ok s =>
    obtain ⟨no, co, n, c, m, d, e, h1⟩ := h
    exact ⟨no, co, n, c, m, d, e, h1.below hb⟩
set_option maxRecDepth 100000 in
set_option maxHeartbeats 4000000 in
theorem plinear_at (W : World) (t : Tm) (v : Value) (w : World) (hv : TmV W t v) (hW : Below W.heap.size W w) :
    Calls Tryz.prog 5 #[v] w fun e w' => ∃ v', e = .returned v' ∧ Lr4 w' (plin t) v' ∧ Below w.heap.size w w' := by
  have CK : Hid (∀ w', Below w.heap.size w w' → Calls Tryz.prog 14 #[v] w' fun e w'' => e = .returned (.int .i64 (chkT nmB t : Nat)) ∧ Below w'.heap.size w' w'') := fun w' h => checkT_run W t v w' hv (hW.trans (h.mono hW.size))
  have LC : chkT nmB t = 0 → Hid (∀ w', Below w.heap.size w w' → Calls Tryz.prog 15 #[v] w' fun e w'' => ∃ v', e = .returned v' ∧ LrB w'.heap.size w'' (lin t) v' ∧ Below w'.heap.size w' w'') := fun h0 w' h =>
    linear_at t ((chkT_iff nmB t).1 h0).2.2 W v w' hv (hW.trans (h.mono hW.size)) ((chkT_iff nmB t).1 h0).1
  obtain ⟨c0, c1, c2, c3, rfl, hr⟩ := hv
  by_cases h0 : chkT nmB t = 0
  · have HL := mkHid (LC h0)
    have HP := mkHid (plin_ok h0)
    rw [h0] at CK
    clear LC hr h0
    go_enter Tryz.func5, Tryz.ntmps5
    go_wp2_with (fail)
    refine (CK.out _ (bal w _)).mono ?_
    rintro e w2 ⟨rfl, hB2⟩
    have hR2 := (rb_new w #[c0, c1, c2, c3] 25).keep hB2
    have hB12 := bt2 (bal w _) hB2
    obtain ⟨r0, -⟩ := txcell hR2 0 _ rfl
    obtain ⟨r1, -⟩ := txcell hR2 1 _ rfl
    obtain ⟨r2, -⟩ := txcell hR2 2 _ rfl
    obtain ⟨r3, -⟩ := txcell hR2 3 _ rfl
    go_wp2_with (fail)
    refine (HL.out.out _ hB12).mono ?_
    rintro e w3 ⟨v3, rfl, hL3, hB3⟩
    obtain ⟨no, n, c, co, m, d, k, e, rfl⟩ := hL3.shape
    have hL := lr4_of hL3
    have hL9 := mkHid (hL.below (bal w3 (.cells #[.slice no n c, .slice co m d, .int .i64 k] 54)))
    have hR9 := rb_new w3 #[.slice no n c, .slice co m d, .int .i64 k] 54
    have hB9 := mkHid (bta (bt2 hB12 hB3) (.cells #[.slice no n c, .slice co m d, .int .i64 k] 54))
    clear hL hL3 r0 r1 r2 r3
    go_wp2_with (fail)
    generalize w3.alloc (.cells #[.slice no n c, .slice co m d, .int .i64 k] 54) = w4 at hL9 hR9 hB9 ⊢
    obtain ⟨r0, -⟩ := txcell hR9 0 _ rfl
    obtain ⟨r1, -⟩ := txcell hR9 1 _ rfl
    obtain ⟨r2, -⟩ := txcell hR9 2 _ rfl
    have hLD : Hid (∀ j, Lr4 (w4.drewN j) (lin t) (.tuple #[.slice no n c, .slice co m d, .int .i64 k, .int .i64 e])) := fun j => hL9.out.below (below_drewn (Below.refl _ _) j)
    have hBD : Hid (∀ j, Below w.heap.size w (w4.drewN j)) := fun j => below_drewn hB9.out j
    clear hL9 hB9
    go_quiet (fail)
    go_wp2
    exact bodyPost_ret (v := .tuple #[.slice no n c, .slice co m d, .int .i64 k, .int .i64 e]) (by simp [results, Tryz.results5, go_sem]) rfl ⟨_, rfl, by rw [HP.out]; exact hLD.out _, hBD.out _⟩
  · have HP := mkHid (plin_no h0)
    have hx : ((chkT nmB t : Int) == 0) = false := by rw [beq_eq_false_iff_ne]; omega
    generalize chkT nmB t = x at CK HP hx
    clear LC hr h0
    go_enter Tryz.func5, Tryz.ntmps5
    go_wp2_with (fail)
    refine (CK.out _ (bal w _)).mono ?_
    rintro e w2 ⟨rfl, hB2⟩
    have hB12 := bt2 (bal w _) hB2
    go_wp2_with (fail)
    exact bodyPost_ret (v := .tuple #[.slice none 0 0, .slice none 0 0, .int .i64 0, .int .i64 x]) (by simp [results, Tryz.results5, go_sem]) rfl ⟨_, rfl, by rw [HP.out]; rfl, hB12⟩
theorem isName_at (x : ByteArray) (w : World) (hx : Sz x.size) :
    Calls Tryz.prog 55 #[.string x] w fun e w' => e = .returned (.bool (nmB x)) ∧ Below w.heap.size w w' := by
  have hv : TmV w (.mk 1 0 x []) (.agg #[.int .i64 1, .int .i64 0, .string x, .slice none 0 0]) := ⟨_, _, _, _, rfl, by
    rw [RdT]
    exact ⟨rfl, rfl, rfl, ⟨⟨by decide, by decide⟩, ⟨by decide, by decide⟩, hx⟩, none, 0, rfl, Nat.le_refl _, by decide, by rw [RdTL]; trivial⟩⟩
  have CK := mkHid (checkT_run w (.mk 1 0 x []) _ w hv (Below.refl _ _))
  have hc : chkT nmB (.mk 1 0 x []) = 0 ↔ nmB x = true := by
    rw [chkT_iff]
    constructor
    · rintro ⟨-, -, h⟩
      rw [Tm.all, Bool.and_eq_true] at h
      have h1 : wT nmB 1 0 x 0 = true := h.1
      unfold wT at h1
      rw [if_neg (by decide), if_pos rfl] at h1
      simp only [Bool.and_eq_true] at h1
      exact h1.1.2
    · intro h
      refine ⟨by simp [Tm.size, Tm.sizeL], by simp [Tm.deep, Tm.deepL], ?_⟩
      rw [Tm.all, Tm.allL, Bool.and_true]
      show wT nmB 1 0 x 0 = true
      unfold wT
      rw [if_neg (by decide), if_pos rfl, h]
      rfl
  generalize chkT nmB (.mk 1 0 x []) = y at CK hc
  cases hn : nmB x with
  | true =>
    have hy : y = 0 := hc.2 hn
    subst hy
    clear hc
    go_enter Tryz.func55, Tryz.ntmps55
    go_wp2_with (fail)
    refine CK.out.mono ?_
    rintro e w2 ⟨rfl, hB2⟩
    go_wp2_with (fail)
    go_ret
    exact ⟨rfl, hB2⟩
  | false =>
    have hy : ((y : Int) == 0) = false := by
      rw [beq_eq_false_iff_ne]
      intro e
      have := hc.1 (by omega)
      rw [hn] at this; cases this
    clear hc
    go_enter Tryz.func55, Tryz.ntmps55
    go_wp2_with (fail)
    refine CK.out.mono ?_
    rintro e w2 ⟨rfl, hB2⟩
    go_wp2_with (fail)
    go_ret
    exact ⟨rfl, hB2⟩
end Go.Proofs.YtiapkblebbcfbaaGreat.Gl
