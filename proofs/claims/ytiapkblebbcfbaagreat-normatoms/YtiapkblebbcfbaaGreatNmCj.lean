/- The document's Work: the whole, and NormLinear. -/
import Derived.Test.YtiapkblebbcfbaaGreatNmCi
import Derived.Test.YtiapkblebbcfbaaGreatNdX
import Derived.Test.YtiapkblebbcfbaaGreatNmK
import Derived.Test.YtiapkblebbcfbaaGreatNmU
namespace Go.Proofs.YtiapkblebbcfbaaGreat.Gl
open Go Go.RowKit
set_option linter.unusedVariables false
set_option linter.unusedSimpArgs false

theorem work_at : ∀ t, t.all (wellT nmB) = true → WorkC t := wt_ind work_num work_name work_neg (fun o t u ho ht hu iht ihu => by
  rcases ho with rfl | rfl | rfl
  · exact work_two3 t u ht hu iht ihu
  · exact work_two4 t u ht hu iht ihu
  · exact work_two5 t u ht hu iht ihu)
/-- what the document's Linear answers -/
def DLin (w : World) (r : Lr) (v : Value) : Prop := match r with
  | .ok s => DSum w (.ok s) v
  | .er e => v = .agg (sum4 none none 0 0 0 0 0 e)
theorem DLin.st4 {w : World} {r : Lr} {v : Value} {R : Nat} {vs : Array Value} (h : DLin w r v) (hR : Rb w R vs 32) (v0 v1 v2 v3 : Value) : DLin ((((w.setCell ⟨R, 0, none⟩ v0).setCell ⟨R, 1, none⟩ v1).setCell ⟨R, 2, none⟩ v2).setCell ⟨R, 3, none⟩ v3) r v := by
  cases r with
  | er e => exact h
  | ok s => exact DSum.st4 (r := .ok s) h hR v0 v1 v2 v3
set_option maxRecDepth 100000 in
set_option maxHeartbeats 4000000 in
theorem rlinear_at (W : World) (t : Tm) (v : Value) (w : World) (hv : TmV W t v) (hW : Below W.heap.size W w) :
    Calls Tryz.prog 6 #[v] w fun e w' => ∃ v', e = .returned v' ∧ DLin w' (plin t) v' ∧ Below w.heap.size w w' := by
  have CK : Hid (∀ w', Below w.heap.size w w' → Calls Tryz.prog 16 #[v] w' fun e w'' => e = .returned (.int .i64 (chkT nmB t : Nat)) ∧ Below w'.heap.size w' w'') := fun w' h => rcheckT_at W t v w' hv (hW.trans (h.mono hW.size))
  have LC : chkT nmB t = 0 → Hid (∀ w', Below w.heap.size w w' → Calls Tryz.prog 17 #[v] w' fun e w'' => ∃ v', e = .returned v' ∧ DSum w'' (lin t) v' ∧ Below w'.heap.size w' w'') := fun h0 w' h =>
    work_at t ((chkT_iff nmB t).1 h0).2.2 W v w' hv (hW.trans (h.mono hW.size)) ((chkT_iff nmB t).1 h0).1
  obtain ⟨c0, c1, c2, c3, rfl, hr⟩ := hv
  have HF := frw_new w c0 c1 c2 c3
  go_enter Tryz.func6, Tryz.ntmps6
  go_wp2_with (fail)
  generalize (w.alloc (.cells #[c0, c1, c2, c3] 25)).alloc (.cells z4 32) = w2 at HF ⊢
  refine (CK.out w2 HF.bel).mono ?_
  rintro e w3 ⟨rfl, hB3⟩
  have HF3 := HF.keep hB3
  clear CK HF
  by_cases h0 : chkT nmB t = 0
  · have LK := LC h0
    have HP := mkHid (plin_ok h0)
    have hwell := mkHid ((chkT_iff nmB t).1 h0).2.2
    rw [h0]
    obtain ⟨b0, b1, b2, b3⟩ := term4 HF3.box
    clear LC h0
    go_wp2_with (fail)
    refine (LK.out w3 HF3.bel).mono ?_
    rintro e w4 ⟨v', rfl, hL, hB4⟩
    have HF4 := HF3.keep hB4
    clear LK b0 b1 b2 b3
    cases hl : lin t with
    | er e =>
      have he := lin_er nmB t hwell.out e hl
      rw [hl] at hL
      obtain ⟨no, co, n, c, m, d, k, rfl, -⟩ := hL
      have hx : ((e : Int) != 0) = true := by rw [bne_iff_ne]; omega
      have HF5 := HF4.keep (bal w4 (.cells (sum4 no co n c m d k e) 32))
      have hDS : DLin (w4.alloc (.cells (sum4 no co n c m d k e) 32)) (plin t) (.agg (sum4 none none 0 0 0 0 0 e)) := by rw [HP.out, hl]; rfl
      clear HP hwell
      obtain ⟨⟨z0, y0⟩, ⟨z1, y1⟩, ⟨z2, y2⟩, ⟨z3, y3⟩⟩ := cellsZ4 HF5.res
      have hR9 := rb_four HF5.res rfl (.slice none 0 0) (.slice none 0 0) (.int .i64 0) (.int .i64 (e : Nat))
      have hD9 := mkHid (hDS.st4 HF5.res (.slice none 0 0) (.slice none 0 0) (.int .i64 0) (.int .i64 (e : Nat)))
      have hB9 := mkHid ((bel_st3 HF5.bel (show w.heap.size ≤ w.heap.size + 1 by omega) (.slice none 0 0) (.slice none 0 0) (.int .i64 0)).setCell (p := ⟨w.heap.size + 1, 3, none⟩) (show w.heap.size ≤ w.heap.size + 1 by omega) (.int .i64 (e : Nat)))
      go_wp2_with (fail)
      obtain ⟨k0, k1, k2, k3⟩ := cells4 hR9
      exact bodyPost_ret (v := .agg #[.slice none 0 0, .slice none 0 0, .int .i64 0, .int .i64 (e : Nat)]) (by simp [results, Tryz.results6, go_sem, k0, k1, k2, k3]) rfl ⟨_, rfl, hD9.out, hB9.out⟩
    | ok s =>
      rw [hl] at hL
      obtain ⟨no, co, n, c, m, d, rfl, hN, hZ, hK, hC⟩ := hL
      have HF5 := HF4.keep (bal w4 (.cells (sum4 no co n c m d s.k 0) 32))
      have hB5 := bal w4 (.cells (sum4 no co n c m d s.k 0) 32)
      have hDS : DLin (w4.alloc (.cells (sum4 no co n c m d s.k 0) 32)) (plin t) (.agg (sum4 no co n c m d s.k 0)) := by rw [HP.out, hl]; exact ⟨no, co, n, c, m, d, rfl, hN.below (Nat.le_refl _) hB5, hZ.below (Nat.le_refl _) hB5, hK.below hB5, hC.below hB5⟩
      clear HP hwell hN hZ hK hC hB5
      obtain ⟨⟨z0, y0⟩, ⟨z1, y1⟩, ⟨z2, y2⟩, ⟨z3, y3⟩⟩ := cellsZ4 HF5.res
      have hR9 := rb_four HF5.res rfl (.slice no n c) (.slice co m d) (.int .i64 s.k) (.int .i64 0)
      have hD9 := mkHid (hDS.st4 HF5.res (.slice no n c) (.slice co m d) (.int .i64 s.k) (.int .i64 0))
      have hB9 := mkHid ((bel_st3 HF5.bel (show w.heap.size ≤ w.heap.size + 1 by omega) (.slice no n c) (.slice co m d) (.int .i64 s.k)).setCell (p := ⟨w.heap.size + 1, 3, none⟩) (show w.heap.size ≤ w.heap.size + 1 by omega) (.int .i64 0))
      go_wp2_with (fail)
      obtain ⟨k0, k1, k2, k3⟩ := cells4 hR9
      exact bodyPost_ret (v := .agg #[.slice no n c, .slice co m d, .int .i64 s.k, .int .i64 0]) (by simp [results, Tryz.results6, go_sem, k0, k1, k2, k3]) rfl ⟨_, rfl, hD9.out, hB9.out⟩
  · have HP := mkHid (plin_no h0)
    have hx : ((chkT nmB t : Int) != 0) = true := by rw [bne_iff_ne]; omega
    have hDS : DLin w3 (plin t) (.agg (sum4 none none 0 0 0 0 0 (chkT nmB t : Nat))) := by rw [HP.out]; rfl
    clear HP LC h0
    generalize chkT nmB t = z at hx hDS
    obtain ⟨⟨z0, y0⟩, ⟨z1, y1⟩, ⟨z2, y2⟩, ⟨z3, y3⟩⟩ := cellsZ4 HF3.res
    have hR9 := rb_four HF3.res rfl (.slice none 0 0) (.slice none 0 0) (.int .i64 0) (.int .i64 (z : Nat))
    have hD9 := mkHid (hDS.st4 HF3.res (.slice none 0 0) (.slice none 0 0) (.int .i64 0) (.int .i64 (z : Nat)))
    have hB9 := mkHid ((bel_st3 HF3.bel (show w.heap.size ≤ w.heap.size + 1 by omega) (.slice none 0 0) (.slice none 0 0) (.int .i64 0)).setCell (p := ⟨w.heap.size + 1, 3, none⟩) (show w.heap.size ≤ w.heap.size + 1 by omega) (.int .i64 (z : Nat)))
    go_wp2_with (fail)
    obtain ⟨k0, k1, k2, k3⟩ := cells4 hR9
    exact bodyPost_ret (v := .agg #[.slice none 0 0, .slice none 0 0, .int .i64 0, .int .i64 (z : Nat)]) (by simp [results, Tryz.results6, go_sem, k0, k1, k2, k3]) rfl ⟨_, rfl, hD9.out, hB9.out⟩
theorem sm_ext {a b : Sm} (h1 : a.ns = b.ns) (h2 : a.cs = b.cs) (h3 : a.k = b.k) : a = b := by cases a; cases b; simp_all
set_option maxRecDepth 100000 in
set_option maxHeartbeats 4000000 in
theorem linear_walk (t : Tm) (v : Value) (w : World) (hv : TmV w t v) :
    Calls Tryz.prog 3 #[v] w fun e w' => e = .returned (.bool true) ∧ Below w.heap.size w w' := by
  have FX := mkHid nfixed_at
  have LN : Hid (∀ w', Below w.heap.size w w' → Calls Tryz.prog 5 #[v] w' fun e w'' => ∃ v', e = .returned v' ∧ Lr4 w'' (plin t) v' ∧ Below w'.heap.size w' w'') := fun w' hb => plinear_at w t v w' hv hb
  have RN : Hid (∀ w', Below w.heap.size w w' → Calls Tryz.prog 6 #[v] w' fun e w'' => ∃ v', e = .returned v' ∧ DLin w'' (plin t) v' ∧ Below w'.heap.size w' w'') := fun w' hb => rlinear_at w t v w' hv hb
  obtain ⟨c0, c1, c2, c3, rfl, hr⟩ := hv
  have hB1 := bal w (.cells #[c0, c1, c2, c3] 25)
  have hR1 := rb_new w #[c0, c1, c2, c3] 25
  go_enter Tryz.func3, Tryz.ntmps3
  go_wp2_with (fail)
  generalize w.alloc (.cells #[c0, c1, c2, c3] 25) = w1 at hB1 hR1 ⊢
  refine (LN.out w1 hB1).mono ?_
  rintro e w2 ⟨v', rfl, hL, hB2⟩
  have hB12 := bt2 hB1 hB2
  obtain ⟨b0, b1, b2, b3⟩ := term4 (hR1.keep hB2)
  clear LN hR1 hB1
  have R2 := mkHid (RN.out w2 hB12)
  clear RN
  cases hp : plin t with
  | er e =>
    rw [hp] at hL R2
    have hv' : v' = .tuple #[.slice none 0 0, .slice none 0 0, .int .i64 0, .int .i64 e] := hL
    subst hv'
    clear hL hp
    go_wp2_with (fail)
    refine R2.out.mono ?_
    rintro e' w3 ⟨v3, rfl, hD, hB3⟩
    have hv3 : v3 = .agg (sum4 none none 0 0 0 0 0 e) := hD
    subst hv3
    clear hD b0 b1 b2 b3 R2
    have hB4 := bal w3 (.cells (sum4 none none 0 0 0 0 0 e) 32)
    have hR4 := rb_new w3 (sum4 none none 0 0 0 0 0 e) 32
    have hB14 := bt2 (bt2 hB12 hB3) hB4
    go_wp2_with (fail)
    generalize w3.alloc (.cells (sum4 none none 0 0 0 0 0 e) 32) = w4 at hR4 hB14 ⊢
    refine (FX.out w4).mono ?_
    rintro e' w5 ⟨rfl, hB5⟩
    obtain ⟨k0, k1, k2, k3⟩ := cells4 (hR4.keep hB5)
    have hB15 := bt2 hB14 hB5
    have SA := mkHid (nsame_at none none 0 0 0 0 [] [] true w5 (rds_nil _) (rds_nil _) (by simp))
    have hq : ((e : Int) == (e : Int)) = true := by simp
    go_wp2_with (fail)
    refine SA.out.mono ?_
    rintro e' w6 ⟨rfl, hB6⟩
    have hR6 := (hR4.keep hB5).keep hB6
    obtain ⟨k0', k1', k2', k3'⟩ := cells4 hR6
    have NA := mkHid (numbers_at none none 0 0 0 0 [] [] true w6 (rdz_nil _) (rdz_nil _) (by simp))
    clear k0 k1 k2 k3 SA
    go_wp2_with (fail)
    refine NA.out.mono ?_
    rintro e' w7 ⟨rfl, hB7⟩
    obtain ⟨k0, k1, k2, k3⟩ := cells4 (hR6.keep hB7)
    clear k0' k1' k2' k3' NA
    go_wp2_with (fail)
    go_ret
    exact ⟨rfl, bt2 (bt2 hB15 hB6) hB7⟩
  | ok s =>
    rw [hp] at hL R2
    obtain ⟨no, co, n, c, m, d, rfl, hN, hZ⟩ := hL
    clear hp
    go_wp2_with (fail)
    refine R2.out.mono ?_
    rintro e' w3 ⟨v3, rfl, hD, hB3⟩
    obtain ⟨no', co', n', c', m', d', rfl, hN', hZ', -, -⟩ := (show DSum w3 (.ok s) v3 from hD)
    clear hD b0 b1 b2 b3 R2
    have hB4 := bal w3 (.cells (sum4 no' co' n' c' m' d' s.k 0) 32)
    have hR4 := rb_new w3 (sum4 no' co' n' c' m' d' s.k 0) 32
    have hB14 := bt2 (bt2 hB12 hB3) hB4
    have hB24 := bt2 hB3 hB4
    go_wp2_with (fail)
    generalize w3.alloc (.cells (sum4 no' co' n' c' m' d' s.k 0) 32) = w4 at hR4 hB14 hB24 hB4 ⊢
    refine (FX.out w4).mono ?_
    rintro e' w5 ⟨rfl, hB5⟩
    obtain ⟨k0, k1, k2, k3⟩ := cells4 (hR4.keep hB5)
    have hB15 := bt2 hB14 hB5
    have hB25 := bt2 hB24 hB5
    have hB35 := bt2 hB4 hB5
    have SA := mkHid (nsame_at no no' n c n' c' s.ns s.ns true w5 (hN.below (Nat.le_refl _) hB25) (hN'.below (Nat.le_refl _) hB35) (by simp))
    have hq : (s.k == s.k) = true := by simp
    go_wp2_with (fail)
    refine SA.out.mono ?_
    rintro e' w6 ⟨rfl, hB6⟩
    have hR6 := (hR4.keep hB5).keep hB6
    obtain ⟨k0', k1', k2', k3'⟩ := cells4 hR6
    have NA := mkHid (numbers_at co co' m d m' d' s.cs s.cs true w6 (hZ.below (Nat.le_refl _) (bt2 hB25 hB6)) (hZ'.below (Nat.le_refl _) (bt2 hB35 hB6)) (by simp))
    clear k0 k1 k2 k3 SA
    go_wp2_with (fail)
    refine NA.out.mono ?_
    rintro e' w7 ⟨rfl, hB7⟩
    obtain ⟨k0, k1, k2, k3⟩ := cells4 (hR6.keep hB7)
    clear k0' k1' k2' k3' NA
    go_wp2_with (fail)
    go_ret
    exact ⟨rfl, bt2 (bt2 hB15 hB6) hB7⟩
end Go.Proofs.YtiapkblebbcfbaaGreat.Gl
