/- The program's linear: negation. -/
import Derived.Test.YtiapkblebbcfbaaGreatNmH
namespace Go.Proofs.YtiapkblebbcfbaaGreat.Gl
open Go.RowKit
set_option linter.unusedVariables false
set_option linter.unusedSimpArgs false

set_option maxRecDepth 100000 in
set_option maxHeartbeats 4000000 in
theorem linear_neg (t : Tm) (ht : t.all (wellT nmB) = true) (ih : LinC t) : LinC (.mk 2 0 emp [t]) := by
  rintro W v w ⟨c0, c1, c2, c3, rfl, hr⟩ hW hsz
  rw [RdT] at hr
  obtain ⟨rfl, rfl, rfl, -, ao, cap, rfl, hcap, hcm, hk⟩ := hr
  obtain ⟨g, of, d0, d1, d2, d3, rfl, q0, q1, q2, q3, hrt, hg⟩ := one_kid hk
  have hst : t.size ≤ 499 := by have := hsz; simp only [Tm.size, Tm.sizeL] at this; omega
  have hcap' : 1 ≤ cap := hcap
  have HG : Hid (∀ p, lin t = .ok p → p.good nmB 500) := fun p hp => (lin_good nmB t ht p hp).mono (by omega)
  have HE : Hid (∀ e, lin t = .er e → e = 90 ∨ e = 91) := lin_er nmB t ht
  have HN : Hid _ := lin_neg 0 emp t
  have HF := mkHid (fr2_new w (.int .i64 2) (.int .i64 0) (.string emp) (.slice (some ⟨g, of, none⟩) 1 cap))
  generalize hw2 : (w.alloc (.cells #[.int .i64 2, .int .i64 0, .string emp, .slice (some ⟨g, of, none⟩) 1 cap] 25)).alloc (.cells #[.slice none 0 0, .slice none 0 0, .int .i64 0] 54) = w2 at HF
  have hB2 := HF.out.bel
  have hW2 : Below W.heap.size W w2 := hW.trans (hB2.mono hW.size)
  have C := mkHid (ih W (.agg #[d0, d1, d2, d3]) w2 ⟨_, _, _, _, rfl, hrt⟩ hW2 (by omega))
  have p0 : w2.cell? ⟨g, of, none⟩ = some d0 := (hW2.cell (p := ⟨g, of, none⟩) hg).trans q0
  have p1 : w2.cell? ⟨g, of + 1, none⟩ = some d1 := (hW2.cell (p := ⟨g, of + 1, none⟩) hg).trans q1
  have p2 : w2.cell? ⟨g, of + 2, none⟩ = some d2 := (hW2.cell (p := ⟨g, of + 2, none⟩) hg).trans q2
  have p3 : w2.cell? ⟨g, of + 3, none⟩ = some d3 := (hW2.cell (p := ⟨g, of + 3, none⟩) hg).trans q3
  rw [← hw2] at p0 p1 p2 p3
  have HW : Hid ((w.alloc (.cells #[.int .i64 2, .int .i64 0, .string emp, .slice (some ⟨g, of, none⟩) 1 cap] 25)).alloc (.cells #[.slice none 0 0, .slice none 0 0, .int .i64 0] 54) = w2) := hw2
  clear hw2 ih q0 q1 q2 q3 hrt hk hB2 hW2
  go_enter Tryz.func15, Tryz.ntmps15
  go_wp2_with (fail)
  have eW := HW.out
  rw [eW]
  clear eW HW p0 p1 p2 p3
  refine C.out.mono ?_
  rintro e w3 ⟨v', rfl, hL, hB3⟩
  have HF3 := HF.out.keep hB3
  have hs3 := HF3.size
  clear C
  cases hl : lin t with
  | er e =>
    rw [hl] at hL
    have hv : v' = .tuple #[.agg zS, .int .i64 e] := hL
    subst hv
    have HR : Hid (lin (.mk 2 0 emp [t]) = .er e) := by have := HN.out; rw [hl] at this; exact this
    rcases HE.out e hl with rfl | rfl
    · have HF4 := HF3.keep (bal w3 (.cells #[.slice none 0 0, .slice none 0 0, .int .i64 0] 54))
      have hR9 := rb_three HF4.res rfl (.slice none 0 0) (.slice none 0 0) (.int .i64 0)
      have hB9 := mkHid (bel_st3 (B := w.heap.size + 1) HF4.bel (by omega) (.slice none 0 0) (.slice none 0 0) (.int .i64 0))
      obtain ⟨r0, s0⟩ := txcell HF4.res 0 _ rfl
      obtain ⟨r1, s1⟩ := txcell HF4.res 1 _ rfl
      obtain ⟨r2, s2⟩ := txcell HF4.res 2 _ rfl
      clear HG HE HN hL
      go_wp2_with (fail)
      obtain ⟨k0, -⟩ := txcell hR9 0 _ rfl
      obtain ⟨k1, -⟩ := txcell hR9 1 _ rfl
      obtain ⟨k2, -⟩ := txcell hR9 2 _ rfl
      exact bodyPost_ret (v := .tuple #[.agg zS, .int .i64 90]) (by simp [results, Tryz.results15, go_sem, k0, k1, k2]) rfl ⟨_, rfl, by rw [HR.out]; rfl, hB9.out⟩
    · have HF4 := HF3.keep (bal w3 (.cells #[.slice none 0 0, .slice none 0 0, .int .i64 0] 54))
      have hR9 := rb_three HF4.res rfl (.slice none 0 0) (.slice none 0 0) (.int .i64 0)
      have hB9 := mkHid (bel_st3 (B := w.heap.size + 1) HF4.bel (by omega) (.slice none 0 0) (.slice none 0 0) (.int .i64 0))
      obtain ⟨r0, s0⟩ := txcell HF4.res 0 _ rfl
      obtain ⟨r1, s1⟩ := txcell HF4.res 1 _ rfl
      obtain ⟨r2, s2⟩ := txcell HF4.res 2 _ rfl
      clear HG HE HN hL
      go_wp2_with (fail)
      obtain ⟨k0, -⟩ := txcell hR9 0 _ rfl
      obtain ⟨k1, -⟩ := txcell hR9 1 _ rfl
      obtain ⟨k2, -⟩ := txcell hR9 2 _ rfl
      exact bodyPost_ret (v := .tuple #[.agg zS, .int .i64 91]) (by simp [results, Tryz.results15, go_sem, k0, k1, k2]) rfl ⟨_, rfl, by rw [HR.out]; rfl, hB9.out⟩
  | ok p =>
    rw [hl] at hL
    obtain ⟨no, co, n, c, m, d, rfl, hRd, hno, hco⟩ := hL
    have HR : Hid (lin (.mk 2 0 emp [t]) = mkS (cmb (fun a b => a - b) nilS p)) := by have := HN.out; rw [hl] at this; exact this
    have hB4 := bal w3 (.cells #[.slice no n c, .slice co m d, .int .i64 p.k] 54)
    have HF4 := HF3.keep hB4
    obtain ⟨b0, -⟩ := txcell HF4.box 0 _ rfl
    have C := mkHid (combine_at 36 (fun a b => a - b) opc_sub nilS p nmB none none no co 0 0 0 0 n c m d _ (rdsm_nil _) (hRd.below hB4) ((nilS_good nmB).mono (Nat.zero_le _)) (HG.out p hl))
    have hs4 : w3.heap.size ≤ (w3.alloc (.cells #[.slice no n c, .slice co m d, .int .i64 p.k] 54)).heap.size := hB4.size
    go_wp2_with (fail)
    refine C.out.mono ?_
    rintro e w5 ⟨v5, rfl, hL5, hB5⟩
    have HF5 := HF4.keep hB5
    obtain ⟨xo, xn, xc, yo, yn, yc, k, e, rfl⟩ := hL5.b.shape
    have hL9 := mkHid ((hL5.b.mono (B' := w.heap.size + 2) (by omega)).st3 (X := w.heap.size + 1) (by omega) (.slice xo xn xc) (.slice yo yn yc) (.int .i64 k))
    have hR9 := rb_three HF5.res rfl (.slice xo xn xc) (.slice yo yn yc) (.int .i64 k)
    have hB9 := mkHid (bel_st3 (B := w.heap.size + 1) HF5.bel (by omega) (.slice xo xn xc) (.slice yo yn yc) (.int .i64 k))
    obtain ⟨r0, s0⟩ := txcell HF5.res 0 _ rfl
    obtain ⟨r1, s1⟩ := txcell HF5.res 1 _ rfl
    obtain ⟨r2, s2⟩ := txcell HF5.res 2 _ rfl
    clear C hL5 HG HE HN hRd
    go_wp2_with (fail)
    obtain ⟨k0, -⟩ := txcell hR9 0 _ rfl
    obtain ⟨k1, -⟩ := txcell hR9 1 _ rfl
    obtain ⟨k2, -⟩ := txcell hR9 2 _ rfl
    exact bodyPost_ret (v := .tuple #[.agg #[.slice xo xn xc, .slice yo yn yc, .int .i64 k], .int .i64 e]) (by simp [results, Tryz.results15, go_sem, k0, k1, k2]) rfl ⟨_, rfl, by rw [HR.out]; exact hL9.out.mono (by omega), hB9.out⟩
end Go.Proofs.YtiapkblebbcfbaaGreat.Gl
/- The program's linear: sums, differences, products. -/
namespace Go.Proofs.YtiapkblebbcfbaaGreat.Gl
open Go.RowKit
set_option linter.unusedVariables false
set_option linter.unusedSimpArgs false

set_option maxRecDepth 100000 in
set_option maxHeartbeats 4000000 in
theorem linear_two3 (t u : Tm) (ht : t.all (wellT nmB) = true) (hu : u.all (wellT nmB) = true) (ih : LinC t) (ihu : LinC u) : LinC (.mk 3 0 emp [t, u]) := by
  rintro W v w ⟨c0, c1, c2, c3, rfl, hr⟩ hW hsz
  rw [RdT] at hr
  obtain ⟨rfl, rfl, rfl, -, ao, cap, rfl, hcap, hcm, hk⟩ := hr
  obtain ⟨g, of, d0, d1, d2, d3, f0, f1, f2, f3, rfl, q0, q1, q2, q3, hrt, t0, t1, t2, t3, hru, hg⟩ := two_kids hk
  have hst : t.size + u.size ≤ 499 := by have := hsz; simp only [Tm.size, Tm.sizeL] at this; omega
  have hcap' : 2 ≤ cap := hcap
  have HG : Hid (∀ p, lin t = .ok p → p.good nmB 500) := fun p hp => (lin_good nmB t ht p hp).mono (by omega)
  have HE : Hid (∀ e, lin t = .er e → e = 90 ∨ e = 91) := lin_er nmB t ht
  have HGu : Hid (∀ p, lin u = .ok p → p.good nmB 500) := fun p hp => (lin_good nmB u hu p hp).mono (by omega)
  have HEu : Hid (∀ e, lin u = .er e → e = 90 ∨ e = 91) := lin_er nmB u hu
  have HN : Hid _ := lin_two (o := 3) (by decide) 0 emp t u
  have HF := mkHid (fr2_new w (.int .i64 3) (.int .i64 0) (.string emp) (.slice (some ⟨g, of, none⟩) 2 cap))
  generalize hw2 : (w.alloc (.cells #[.int .i64 3, .int .i64 0, .string emp, .slice (some ⟨g, of, none⟩) 2 cap] 25)).alloc (.cells #[.slice none 0 0, .slice none 0 0, .int .i64 0] 54) = w2 at HF
  have hB2 := HF.out.bel
  have hs2 := HF.out.size
  have hW2 : Below W.heap.size W w2 := hW.trans (hB2.mono hW.size)
  have C := mkHid (ih W (.agg #[d0, d1, d2, d3]) w2 ⟨_, _, _, _, rfl, hrt⟩ hW2 (by omega))
  have CU : Hid (∀ w', Below W.heap.size W w' → Calls Tryz.prog 15 #[.agg #[f0, f1, f2, f3]] w' fun e w'' => ∃ v', e = .returned v' ∧ LrB w'.heap.size w'' (lin u) v' ∧ Below w'.heap.size w' w'') := fun w' h => ihu W (.agg #[f0, f1, f2, f3]) w' ⟨_, _, _, _, rfl, hru⟩ h (by omega)
  have p0 : w2.cell? ⟨g, of, none⟩ = some d0 := (hW2.cell (p := ⟨g, of, none⟩) hg).trans q0
  have p1 : w2.cell? ⟨g, of + 1, none⟩ = some d1 := (hW2.cell (p := ⟨g, of + 1, none⟩) hg).trans q1
  have p2 : w2.cell? ⟨g, of + 2, none⟩ = some d2 := (hW2.cell (p := ⟨g, of + 2, none⟩) hg).trans q2
  have p3 : w2.cell? ⟨g, of + 3, none⟩ = some d3 := (hW2.cell (p := ⟨g, of + 3, none⟩) hg).trans q3
  rw [← hw2] at p0 p1 p2 p3
  have HW : Hid ((w.alloc (.cells #[.int .i64 3, .int .i64 0, .string emp, .slice (some ⟨g, of, none⟩) 2 cap] 25)).alloc (.cells #[.slice none 0 0, .slice none 0 0, .int .i64 0] 54) = w2) := hw2
  clear hw2 ih ihu q0 q1 q2 q3 hrt hru hk hB2
  go_enter Tryz.func15, Tryz.ntmps15
  go_wp2_with (fail)
  have eW := HW.out
  rw [eW]
  clear eW HW p0 p1 p2 p3
  refine C.out.mono ?_
  rintro e w3 ⟨v', rfl, hL, hB3⟩
  have HF3 := HF.out.keep hB3
  have hs3 := HF3.size
  have hW3 : Below W.heap.size W w3 := hW2.trans (hB3.mono hW2.size)
  clear C hW2
  cases hl : lin t with
  | er e =>
    rw [hl] at hL
    have hv : v' = .tuple #[.agg zS, .int .i64 e] := hL
    subst hv
    have HR : Hid (lin (.mk 3 0 emp [t, u]) = .er e) := by have := HN.out; rw [hl] at this; exact this
    rcases HE.out e hl with rfl | rfl
    · have HF4 := HF3.keep (bal w3 (.cells #[.slice none 0 0, .slice none 0 0, .int .i64 0] 54))
      have hR9 := rb_three HF4.res rfl (.slice none 0 0) (.slice none 0 0) (.int .i64 0)
      have hB9 := mkHid (bel_st3 (B := w.heap.size + 1) HF4.bel (by omega) (.slice none 0 0) (.slice none 0 0) (.int .i64 0))
      obtain ⟨r0, s0⟩ := txcell HF4.res 0 _ rfl
      obtain ⟨r1, s1⟩ := txcell HF4.res 1 _ rfl
      obtain ⟨r2, s2⟩ := txcell HF4.res 2 _ rfl
      clear HG HE HN hL CU HGu HEu t0 t1 t2 t3
      go_wp2_with (fail)
      obtain ⟨k0, -⟩ := txcell hR9 0 _ rfl
      obtain ⟨k1, -⟩ := txcell hR9 1 _ rfl
      obtain ⟨k2, -⟩ := txcell hR9 2 _ rfl
      exact bodyPost_ret (v := .tuple #[.agg zS, .int .i64 90]) (by simp [results, Tryz.results15, go_sem, k0, k1, k2]) rfl ⟨_, rfl, by rw [HR.out]; rfl, hB9.out⟩
    · have HF4 := HF3.keep (bal w3 (.cells #[.slice none 0 0, .slice none 0 0, .int .i64 0] 54))
      have hR9 := rb_three HF4.res rfl (.slice none 0 0) (.slice none 0 0) (.int .i64 0)
      have hB9 := mkHid (bel_st3 (B := w.heap.size + 1) HF4.bel (by omega) (.slice none 0 0) (.slice none 0 0) (.int .i64 0))
      obtain ⟨r0, s0⟩ := txcell HF4.res 0 _ rfl
      obtain ⟨r1, s1⟩ := txcell HF4.res 1 _ rfl
      obtain ⟨r2, s2⟩ := txcell HF4.res 2 _ rfl
      clear HG HE HN hL CU HGu HEu t0 t1 t2 t3
      go_wp2_with (fail)
      obtain ⟨k0, -⟩ := txcell hR9 0 _ rfl
      obtain ⟨k1, -⟩ := txcell hR9 1 _ rfl
      obtain ⟨k2, -⟩ := txcell hR9 2 _ rfl
      exact bodyPost_ret (v := .tuple #[.agg zS, .int .i64 91]) (by simp [results, Tryz.results15, go_sem, k0, k1, k2]) rfl ⟨_, rfl, by rw [HR.out]; rfl, hB9.out⟩
  | ok p =>
    rw [hl] at hL
    obtain ⟨no, co, n, c, m, d, rfl, hRd, hno, hco⟩ := hL
    have hB4 := bal w3 (.cells #[.slice no n c, .slice co m d, .int .i64 p.k] 54)
    have hR4 := rb_new w3 #[.slice no n c, .slice co m d, .int .i64 p.k] 54
    have HF4 := HF3.keep hB4
    have hW4 : Below W.heap.size W (w3.alloc (.cells #[.slice no n c, .slice co m d, .int .i64 p.k] 54)) := hW3.trans (hB4.mono hW3.size)
    obtain ⟨b0, -⟩ := txcell HF4.box 0 _ rfl
    obtain ⟨b3, -⟩ := txcell HF4.box 3 _ rfl
    have p0 : (w3.alloc (.cells #[.slice no n c, .slice co m d, .int .i64 p.k] 54)).cell? ⟨g, of + 4, none⟩ = some f0 := (hW4.cell (p := ⟨g, of + 4, none⟩) hg).trans t0
    have p1 : (w3.alloc (.cells #[.slice no n c, .slice co m d, .int .i64 p.k] 54)).cell? ⟨g, of + 5, none⟩ = some f1 := (hW4.cell (p := ⟨g, of + 5, none⟩) hg).trans t1
    have p2 : (w3.alloc (.cells #[.slice no n c, .slice co m d, .int .i64 p.k] 54)).cell? ⟨g, of + 6, none⟩ = some f2 := (hW4.cell (p := ⟨g, of + 6, none⟩) hg).trans t2
    have p3 : (w3.alloc (.cells #[.slice no n c, .slice co m d, .int .i64 p.k] 54)).cell? ⟨g, of + 7, none⟩ = some f3 := (hW4.cell (p := ⟨g, of + 7, none⟩) hg).trans t3
    have hs4 : w3.heap.size + 1 ≤ (w3.alloc (.cells #[.slice no n c, .slice co m d, .int .i64 p.k] 54)).heap.size := by simp
    clear t0 t1 t2 t3
    go_wp2_with (fail)
    generalize w3.alloc (.cells #[.slice no n c, .slice co m d, .int .i64 p.k] 54) = w4 at hB4 hR4 HF4 hW4 hs4 ⊢
    clear b0 b3 p0 p1 p2 p3
    refine (CU.out w4 hW4).mono ?_
    rintro e w5 ⟨v', rfl, hL2, hB5⟩
    have HF5 := HF4.keep hB5
    have hR5 := hR4.keep hB5
    have hs5 : w.heap.size + 2 ≤ w5.heap.size := HF5.size
    have hs5' : w4.heap.size ≤ w5.heap.size := hB5.size
    clear CU
    cases hm : lin u with
    | er e =>
      rw [hm] at hL2
      have hv : v' = .tuple #[.agg zS, .int .i64 e] := hL2
      subst hv
      have HR : Hid (lin (.mk 3 0 emp [t, u]) = .er e) := by have := HN.out; rw [hl, hm] at this; exact this
      rcases HEu.out e hm with rfl | rfl
      · have HF4 := HF5.keep (bal w5 (.cells #[.slice none 0 0, .slice none 0 0, .int .i64 0] 54))
        have hR9 := rb_three HF4.res rfl (.slice none 0 0) (.slice none 0 0) (.int .i64 0)
        have hB9 := mkHid (bel_st3 (B := w.heap.size + 1) HF4.bel (by omega) (.slice none 0 0) (.slice none 0 0) (.int .i64 0))
        obtain ⟨r0, s0⟩ := txcell HF4.res 0 _ rfl
        obtain ⟨r1, s1⟩ := txcell HF4.res 1 _ rfl
        obtain ⟨r2, s2⟩ := txcell HF4.res 2 _ rfl
        clear HG HE HN hL2 HGu HEu hRd
        go_wp2_with (fail)
        obtain ⟨k0, -⟩ := txcell hR9 0 _ rfl
        obtain ⟨k1, -⟩ := txcell hR9 1 _ rfl
        obtain ⟨k2, -⟩ := txcell hR9 2 _ rfl
        exact bodyPost_ret (v := .tuple #[.agg zS, .int .i64 90]) (by simp [results, Tryz.results15, go_sem, k0, k1, k2]) rfl ⟨_, rfl, by rw [HR.out]; rfl, hB9.out⟩
      · have HF4 := HF5.keep (bal w5 (.cells #[.slice none 0 0, .slice none 0 0, .int .i64 0] 54))
        have hR9 := rb_three HF4.res rfl (.slice none 0 0) (.slice none 0 0) (.int .i64 0)
        have hB9 := mkHid (bel_st3 (B := w.heap.size + 1) HF4.bel (by omega) (.slice none 0 0) (.slice none 0 0) (.int .i64 0))
        obtain ⟨r0, s0⟩ := txcell HF4.res 0 _ rfl
        obtain ⟨r1, s1⟩ := txcell HF4.res 1 _ rfl
        obtain ⟨r2, s2⟩ := txcell HF4.res 2 _ rfl
        clear HG HE HN hL2 HGu HEu hRd
        go_wp2_with (fail)
        obtain ⟨k0, -⟩ := txcell hR9 0 _ rfl
        obtain ⟨k1, -⟩ := txcell hR9 1 _ rfl
        obtain ⟨k2, -⟩ := txcell hR9 2 _ rfl
        exact bodyPost_ret (v := .tuple #[.agg zS, .int .i64 91]) (by simp [results, Tryz.results15, go_sem, k0, k1, k2]) rfl ⟨_, rfl, by rw [HR.out]; rfl, hB9.out⟩
    | ok q =>
      rw [hm] at hL2
      obtain ⟨qo, qc, qn, qk, qm, qd, rfl, hRq, hqo, hqc⟩ := hL2
      have HR : Hid (lin (.mk 3 0 emp [t, u]) = mkS (cmb (fun a b => a + b) p q)) := HN.out.trans (by rw [hl, hm]; exact if_pos trivial)
      have hB6 := bal w5 (.cells #[.slice qo qn qk, .slice qc qm qd, .int .i64 q.k] 54)
      have hB46 := bt2 hB4 (bt2 hB5 hB6)
      have HF6 := HF5.keep hB6
      have hR6 := hR5.keep hB6
      obtain ⟨b0, -⟩ := txcell HF6.box 0 _ rfl
      obtain ⟨e0, -⟩ := txcell hR6 0 _ rfl
      obtain ⟨e1, -⟩ := txcell hR6 1 _ rfl
      obtain ⟨e2, -⟩ := txcell hR6 2 _ rfl
      have hs6 : w5.heap.size + 1 ≤ (w5.alloc (.cells #[.slice qo qn qk, .slice qc qm qd, .int .i64 q.k] 54)).heap.size := by simp
      have C := mkHid (combine_at 37 (fun a b => a + b) opc_add p q nmB no co qo qc n c m d qn qk qm qd _ (hRd.below hB46) (hRq.below hB6) (HG.out p hl) (HGu.out q hm))
      clear HE HEu HG HGu HN
      go_wp2_with (fail)
      refine C.out.mono ?_
      rintro e w7 ⟨v5, rfl, hL5, hB7⟩
      have HF7 := HF6.keep hB7
      obtain ⟨xo, xn, xc, yo, yn, yc, k, e, rfl⟩ := hL5.b.shape
      have hL9 := mkHid ((hL5.b.mono (B' := w.heap.size + 2) (by omega)).st3 (X := w.heap.size + 1) (by omega) (.slice xo xn xc) (.slice yo yn yc) (.int .i64 k))
      have hR9 := rb_three HF7.res rfl (.slice xo xn xc) (.slice yo yn yc) (.int .i64 k)
      have hB9 := mkHid (bel_st3 (B := w.heap.size + 1) HF7.bel (by omega) (.slice xo xn xc) (.slice yo yn yc) (.int .i64 k))
      obtain ⟨r0, s0⟩ := txcell HF7.res 0 _ rfl
      obtain ⟨r1, s1⟩ := txcell HF7.res 1 _ rfl
      obtain ⟨r2, s2⟩ := txcell HF7.res 2 _ rfl
      clear C hL5 hRd hRq
      go_wp2_with (fail)
      obtain ⟨k0, -⟩ := txcell hR9 0 _ rfl
      obtain ⟨k1, -⟩ := txcell hR9 1 _ rfl
      obtain ⟨k2, -⟩ := txcell hR9 2 _ rfl
      exact bodyPost_ret (v := .tuple #[.agg #[.slice xo xn xc, .slice yo yn yc, .int .i64 k], .int .i64 e]) (by simp [results, Tryz.results15, go_sem, k0, k1, k2]) rfl ⟨_, rfl, by rw [HR.out]; exact hL9.out.mono (by omega), hB9.out⟩
set_option maxRecDepth 100000 in
set_option maxHeartbeats 4000000 in
theorem linear_two4 (t u : Tm) (ht : t.all (wellT nmB) = true) (hu : u.all (wellT nmB) = true) (ih : LinC t) (ihu : LinC u) : LinC (.mk 4 0 emp [t, u]) := by
  rintro W v w ⟨c0, c1, c2, c3, rfl, hr⟩ hW hsz
  rw [RdT] at hr
  obtain ⟨rfl, rfl, rfl, -, ao, cap, rfl, hcap, hcm, hk⟩ := hr
  obtain ⟨g, of, d0, d1, d2, d3, f0, f1, f2, f3, rfl, q0, q1, q2, q3, hrt, t0, t1, t2, t3, hru, hg⟩ := two_kids hk
  have hst : t.size + u.size ≤ 499 := by have := hsz; simp only [Tm.size, Tm.sizeL] at this; omega
  have hcap' : 2 ≤ cap := hcap
  have HG : Hid (∀ p, lin t = .ok p → p.good nmB 500) := fun p hp => (lin_good nmB t ht p hp).mono (by omega)
  have HE : Hid (∀ e, lin t = .er e → e = 90 ∨ e = 91) := lin_er nmB t ht
  have HGu : Hid (∀ p, lin u = .ok p → p.good nmB 500) := fun p hp => (lin_good nmB u hu p hp).mono (by omega)
  have HEu : Hid (∀ e, lin u = .er e → e = 90 ∨ e = 91) := lin_er nmB u hu
  have HN : Hid _ := lin_two (o := 4) (by decide) 0 emp t u
  have HF := mkHid (fr2_new w (.int .i64 4) (.int .i64 0) (.string emp) (.slice (some ⟨g, of, none⟩) 2 cap))
  generalize hw2 : (w.alloc (.cells #[.int .i64 4, .int .i64 0, .string emp, .slice (some ⟨g, of, none⟩) 2 cap] 25)).alloc (.cells #[.slice none 0 0, .slice none 0 0, .int .i64 0] 54) = w2 at HF
  have hB2 := HF.out.bel
  have hs2 := HF.out.size
  have hW2 : Below W.heap.size W w2 := hW.trans (hB2.mono hW.size)
  have C := mkHid (ih W (.agg #[d0, d1, d2, d3]) w2 ⟨_, _, _, _, rfl, hrt⟩ hW2 (by omega))
  have CU : Hid (∀ w', Below W.heap.size W w' → Calls Tryz.prog 15 #[.agg #[f0, f1, f2, f3]] w' fun e w'' => ∃ v', e = .returned v' ∧ LrB w'.heap.size w'' (lin u) v' ∧ Below w'.heap.size w' w'') := fun w' h => ihu W (.agg #[f0, f1, f2, f3]) w' ⟨_, _, _, _, rfl, hru⟩ h (by omega)
  have p0 : w2.cell? ⟨g, of, none⟩ = some d0 := (hW2.cell (p := ⟨g, of, none⟩) hg).trans q0
  have p1 : w2.cell? ⟨g, of + 1, none⟩ = some d1 := (hW2.cell (p := ⟨g, of + 1, none⟩) hg).trans q1
  have p2 : w2.cell? ⟨g, of + 2, none⟩ = some d2 := (hW2.cell (p := ⟨g, of + 2, none⟩) hg).trans q2
  have p3 : w2.cell? ⟨g, of + 3, none⟩ = some d3 := (hW2.cell (p := ⟨g, of + 3, none⟩) hg).trans q3
  rw [← hw2] at p0 p1 p2 p3
  have HW : Hid ((w.alloc (.cells #[.int .i64 4, .int .i64 0, .string emp, .slice (some ⟨g, of, none⟩) 2 cap] 25)).alloc (.cells #[.slice none 0 0, .slice none 0 0, .int .i64 0] 54) = w2) := hw2
  clear hw2 ih ihu q0 q1 q2 q3 hrt hru hk hB2
  go_enter Tryz.func15, Tryz.ntmps15
  go_wp2_with (fail)
  have eW := HW.out
  rw [eW]
  clear eW HW p0 p1 p2 p3
  refine C.out.mono ?_
  rintro e w3 ⟨v', rfl, hL, hB3⟩
  have HF3 := HF.out.keep hB3
  have hs3 := HF3.size
  have hW3 : Below W.heap.size W w3 := hW2.trans (hB3.mono hW2.size)
  clear C hW2
  cases hl : lin t with
  | er e =>
    rw [hl] at hL
    have hv : v' = .tuple #[.agg zS, .int .i64 e] := hL
    subst hv
    have HR : Hid (lin (.mk 4 0 emp [t, u]) = .er e) := by have := HN.out; rw [hl] at this; exact this
    rcases HE.out e hl with rfl | rfl
    · have HF4 := HF3.keep (bal w3 (.cells #[.slice none 0 0, .slice none 0 0, .int .i64 0] 54))
      have hR9 := rb_three HF4.res rfl (.slice none 0 0) (.slice none 0 0) (.int .i64 0)
      have hB9 := mkHid (bel_st3 (B := w.heap.size + 1) HF4.bel (by omega) (.slice none 0 0) (.slice none 0 0) (.int .i64 0))
      obtain ⟨r0, s0⟩ := txcell HF4.res 0 _ rfl
      obtain ⟨r1, s1⟩ := txcell HF4.res 1 _ rfl
      obtain ⟨r2, s2⟩ := txcell HF4.res 2 _ rfl
      clear HG HE HN hL CU HGu HEu t0 t1 t2 t3
      go_wp2_with (fail)
      obtain ⟨k0, -⟩ := txcell hR9 0 _ rfl
      obtain ⟨k1, -⟩ := txcell hR9 1 _ rfl
      obtain ⟨k2, -⟩ := txcell hR9 2 _ rfl
      exact bodyPost_ret (v := .tuple #[.agg zS, .int .i64 90]) (by simp [results, Tryz.results15, go_sem, k0, k1, k2]) rfl ⟨_, rfl, by rw [HR.out]; rfl, hB9.out⟩
    · have HF4 := HF3.keep (bal w3 (.cells #[.slice none 0 0, .slice none 0 0, .int .i64 0] 54))
      have hR9 := rb_three HF4.res rfl (.slice none 0 0) (.slice none 0 0) (.int .i64 0)
      have hB9 := mkHid (bel_st3 (B := w.heap.size + 1) HF4.bel (by omega) (.slice none 0 0) (.slice none 0 0) (.int .i64 0))
      obtain ⟨r0, s0⟩ := txcell HF4.res 0 _ rfl
      obtain ⟨r1, s1⟩ := txcell HF4.res 1 _ rfl
      obtain ⟨r2, s2⟩ := txcell HF4.res 2 _ rfl
      clear HG HE HN hL CU HGu HEu t0 t1 t2 t3
      go_wp2_with (fail)
      obtain ⟨k0, -⟩ := txcell hR9 0 _ rfl
      obtain ⟨k1, -⟩ := txcell hR9 1 _ rfl
      obtain ⟨k2, -⟩ := txcell hR9 2 _ rfl
      exact bodyPost_ret (v := .tuple #[.agg zS, .int .i64 91]) (by simp [results, Tryz.results15, go_sem, k0, k1, k2]) rfl ⟨_, rfl, by rw [HR.out]; rfl, hB9.out⟩
  | ok p =>
    rw [hl] at hL
    obtain ⟨no, co, n, c, m, d, rfl, hRd, hno, hco⟩ := hL
    have hB4 := bal w3 (.cells #[.slice no n c, .slice co m d, .int .i64 p.k] 54)
    have hR4 := rb_new w3 #[.slice no n c, .slice co m d, .int .i64 p.k] 54
    have HF4 := HF3.keep hB4
    have hW4 : Below W.heap.size W (w3.alloc (.cells #[.slice no n c, .slice co m d, .int .i64 p.k] 54)) := hW3.trans (hB4.mono hW3.size)
    obtain ⟨b0, -⟩ := txcell HF4.box 0 _ rfl
    obtain ⟨b3, -⟩ := txcell HF4.box 3 _ rfl
    have p0 : (w3.alloc (.cells #[.slice no n c, .slice co m d, .int .i64 p.k] 54)).cell? ⟨g, of + 4, none⟩ = some f0 := (hW4.cell (p := ⟨g, of + 4, none⟩) hg).trans t0
    have p1 : (w3.alloc (.cells #[.slice no n c, .slice co m d, .int .i64 p.k] 54)).cell? ⟨g, of + 5, none⟩ = some f1 := (hW4.cell (p := ⟨g, of + 5, none⟩) hg).trans t1
    have p2 : (w3.alloc (.cells #[.slice no n c, .slice co m d, .int .i64 p.k] 54)).cell? ⟨g, of + 6, none⟩ = some f2 := (hW4.cell (p := ⟨g, of + 6, none⟩) hg).trans t2
    have p3 : (w3.alloc (.cells #[.slice no n c, .slice co m d, .int .i64 p.k] 54)).cell? ⟨g, of + 7, none⟩ = some f3 := (hW4.cell (p := ⟨g, of + 7, none⟩) hg).trans t3
    have hs4 : w3.heap.size + 1 ≤ (w3.alloc (.cells #[.slice no n c, .slice co m d, .int .i64 p.k] 54)).heap.size := by simp
    clear t0 t1 t2 t3
    go_wp2_with (fail)
    generalize w3.alloc (.cells #[.slice no n c, .slice co m d, .int .i64 p.k] 54) = w4 at hB4 hR4 HF4 hW4 hs4 ⊢
    clear b0 b3 p0 p1 p2 p3
    refine (CU.out w4 hW4).mono ?_
    rintro e w5 ⟨v', rfl, hL2, hB5⟩
    have HF5 := HF4.keep hB5
    have hR5 := hR4.keep hB5
    have hs5 : w.heap.size + 2 ≤ w5.heap.size := HF5.size
    have hs5' : w4.heap.size ≤ w5.heap.size := hB5.size
    clear CU
    cases hm : lin u with
    | er e =>
      rw [hm] at hL2
      have hv : v' = .tuple #[.agg zS, .int .i64 e] := hL2
      subst hv
      have HR : Hid (lin (.mk 4 0 emp [t, u]) = .er e) := by have := HN.out; rw [hl, hm] at this; exact this
      rcases HEu.out e hm with rfl | rfl
      · have HF4 := HF5.keep (bal w5 (.cells #[.slice none 0 0, .slice none 0 0, .int .i64 0] 54))
        have hR9 := rb_three HF4.res rfl (.slice none 0 0) (.slice none 0 0) (.int .i64 0)
        have hB9 := mkHid (bel_st3 (B := w.heap.size + 1) HF4.bel (by omega) (.slice none 0 0) (.slice none 0 0) (.int .i64 0))
        obtain ⟨r0, s0⟩ := txcell HF4.res 0 _ rfl
        obtain ⟨r1, s1⟩ := txcell HF4.res 1 _ rfl
        obtain ⟨r2, s2⟩ := txcell HF4.res 2 _ rfl
        clear HG HE HN hL2 HGu HEu hRd
        go_wp2_with (fail)
        obtain ⟨k0, -⟩ := txcell hR9 0 _ rfl
        obtain ⟨k1, -⟩ := txcell hR9 1 _ rfl
        obtain ⟨k2, -⟩ := txcell hR9 2 _ rfl
        exact bodyPost_ret (v := .tuple #[.agg zS, .int .i64 90]) (by simp [results, Tryz.results15, go_sem, k0, k1, k2]) rfl ⟨_, rfl, by rw [HR.out]; rfl, hB9.out⟩
      · have HF4 := HF5.keep (bal w5 (.cells #[.slice none 0 0, .slice none 0 0, .int .i64 0] 54))
        have hR9 := rb_three HF4.res rfl (.slice none 0 0) (.slice none 0 0) (.int .i64 0)
        have hB9 := mkHid (bel_st3 (B := w.heap.size + 1) HF4.bel (by omega) (.slice none 0 0) (.slice none 0 0) (.int .i64 0))
        obtain ⟨r0, s0⟩ := txcell HF4.res 0 _ rfl
        obtain ⟨r1, s1⟩ := txcell HF4.res 1 _ rfl
        obtain ⟨r2, s2⟩ := txcell HF4.res 2 _ rfl
        clear HG HE HN hL2 HGu HEu hRd
        go_wp2_with (fail)
        obtain ⟨k0, -⟩ := txcell hR9 0 _ rfl
        obtain ⟨k1, -⟩ := txcell hR9 1 _ rfl
        obtain ⟨k2, -⟩ := txcell hR9 2 _ rfl
        exact bodyPost_ret (v := .tuple #[.agg zS, .int .i64 91]) (by simp [results, Tryz.results15, go_sem, k0, k1, k2]) rfl ⟨_, rfl, by rw [HR.out]; rfl, hB9.out⟩
    | ok q =>
      rw [hm] at hL2
      obtain ⟨qo, qc, qn, qk, qm, qd, rfl, hRq, hqo, hqc⟩ := hL2
      have HR : Hid (lin (.mk 4 0 emp [t, u]) = mkS (cmb (fun a b => a - b) p q)) := HN.out.trans (by rw [hl, hm]; exact (if_neg (by decide)).trans (if_pos trivial))
      have hB6 := bal w5 (.cells #[.slice qo qn qk, .slice qc qm qd, .int .i64 q.k] 54)
      have hB46 := bt2 hB4 (bt2 hB5 hB6)
      have HF6 := HF5.keep hB6
      have hR6 := hR5.keep hB6
      obtain ⟨b0, -⟩ := txcell HF6.box 0 _ rfl
      obtain ⟨e0, -⟩ := txcell hR6 0 _ rfl
      obtain ⟨e1, -⟩ := txcell hR6 1 _ rfl
      obtain ⟨e2, -⟩ := txcell hR6 2 _ rfl
      have hs6 : w5.heap.size + 1 ≤ (w5.alloc (.cells #[.slice qo qn qk, .slice qc qm qd, .int .i64 q.k] 54)).heap.size := by simp
      have C := mkHid (combine_at 36 (fun a b => a - b) opc_sub p q nmB no co qo qc n c m d qn qk qm qd _ (hRd.below hB46) (hRq.below hB6) (HG.out p hl) (HGu.out q hm))
      clear HE HEu HG HGu HN
      go_wp2_with (fail)
      refine C.out.mono ?_
      rintro e w7 ⟨v5, rfl, hL5, hB7⟩
      have HF7 := HF6.keep hB7
      obtain ⟨xo, xn, xc, yo, yn, yc, k, e, rfl⟩ := hL5.b.shape
      have hL9 := mkHid ((hL5.b.mono (B' := w.heap.size + 2) (by omega)).st3 (X := w.heap.size + 1) (by omega) (.slice xo xn xc) (.slice yo yn yc) (.int .i64 k))
      have hR9 := rb_three HF7.res rfl (.slice xo xn xc) (.slice yo yn yc) (.int .i64 k)
      have hB9 := mkHid (bel_st3 (B := w.heap.size + 1) HF7.bel (by omega) (.slice xo xn xc) (.slice yo yn yc) (.int .i64 k))
      obtain ⟨r0, s0⟩ := txcell HF7.res 0 _ rfl
      obtain ⟨r1, s1⟩ := txcell HF7.res 1 _ rfl
      obtain ⟨r2, s2⟩ := txcell HF7.res 2 _ rfl
      clear C hL5 hRd hRq
      go_wp2_with (fail)
      obtain ⟨k0, -⟩ := txcell hR9 0 _ rfl
      obtain ⟨k1, -⟩ := txcell hR9 1 _ rfl
      obtain ⟨k2, -⟩ := txcell hR9 2 _ rfl
      exact bodyPost_ret (v := .tuple #[.agg #[.slice xo xn xc, .slice yo yn yc, .int .i64 k], .int .i64 e]) (by simp [results, Tryz.results15, go_sem, k0, k1, k2]) rfl ⟨_, rfl, by rw [HR.out]; exact hL9.out.mono (by omega), hB9.out⟩
set_option maxRecDepth 100000 in
set_option maxHeartbeats 4000000 in
theorem linear_two5 (t u : Tm) (ht : t.all (wellT nmB) = true) (hu : u.all (wellT nmB) = true) (ih : LinC t) (ihu : LinC u) : LinC (.mk 5 0 emp [t, u]) := by
  rintro W v w ⟨c0, c1, c2, c3, rfl, hr⟩ hW hsz
  rw [RdT] at hr
  obtain ⟨rfl, rfl, rfl, -, ao, cap, rfl, hcap, hcm, hk⟩ := hr
  obtain ⟨g, of, d0, d1, d2, d3, f0, f1, f2, f3, rfl, q0, q1, q2, q3, hrt, t0, t1, t2, t3, hru, hg⟩ := two_kids hk
  have hst : t.size + u.size ≤ 499 := by have := hsz; simp only [Tm.size, Tm.sizeL] at this; omega
  have hcap' : 2 ≤ cap := hcap
  have HG : Hid (∀ p, lin t = .ok p → p.good nmB 500) := fun p hp => (lin_good nmB t ht p hp).mono (by omega)
  have HE : Hid (∀ e, lin t = .er e → e = 90 ∨ e = 91) := lin_er nmB t ht
  have HGu : Hid (∀ p, lin u = .ok p → p.good nmB 500) := fun p hp => (lin_good nmB u hu p hp).mono (by omega)
  have HEu : Hid (∀ e, lin u = .er e → e = 90 ∨ e = 91) := lin_er nmB u hu
  have HN : Hid _ := lin_two (o := 5) (by decide) 0 emp t u
  have HF := mkHid (fr2_new w (.int .i64 5) (.int .i64 0) (.string emp) (.slice (some ⟨g, of, none⟩) 2 cap))
  generalize hw2 : (w.alloc (.cells #[.int .i64 5, .int .i64 0, .string emp, .slice (some ⟨g, of, none⟩) 2 cap] 25)).alloc (.cells #[.slice none 0 0, .slice none 0 0, .int .i64 0] 54) = w2 at HF
  have hB2 := HF.out.bel
  have hs2 := HF.out.size
  have hW2 : Below W.heap.size W w2 := hW.trans (hB2.mono hW.size)
  have C := mkHid (ih W (.agg #[d0, d1, d2, d3]) w2 ⟨_, _, _, _, rfl, hrt⟩ hW2 (by omega))
  have CU : Hid (∀ w', Below W.heap.size W w' → Calls Tryz.prog 15 #[.agg #[f0, f1, f2, f3]] w' fun e w'' => ∃ v', e = .returned v' ∧ LrB w'.heap.size w'' (lin u) v' ∧ Below w'.heap.size w' w'') := fun w' h => ihu W (.agg #[f0, f1, f2, f3]) w' ⟨_, _, _, _, rfl, hru⟩ h (by omega)
  have p0 : w2.cell? ⟨g, of, none⟩ = some d0 := (hW2.cell (p := ⟨g, of, none⟩) hg).trans q0
  have p1 : w2.cell? ⟨g, of + 1, none⟩ = some d1 := (hW2.cell (p := ⟨g, of + 1, none⟩) hg).trans q1
  have p2 : w2.cell? ⟨g, of + 2, none⟩ = some d2 := (hW2.cell (p := ⟨g, of + 2, none⟩) hg).trans q2
  have p3 : w2.cell? ⟨g, of + 3, none⟩ = some d3 := (hW2.cell (p := ⟨g, of + 3, none⟩) hg).trans q3
  rw [← hw2] at p0 p1 p2 p3
  have HW : Hid ((w.alloc (.cells #[.int .i64 5, .int .i64 0, .string emp, .slice (some ⟨g, of, none⟩) 2 cap] 25)).alloc (.cells #[.slice none 0 0, .slice none 0 0, .int .i64 0] 54) = w2) := hw2
  clear hw2 ih ihu q0 q1 q2 q3 hrt hru hk hB2
  go_enter Tryz.func15, Tryz.ntmps15
  go_wp2_with (fail)
  have eW := HW.out
  rw [eW]
  clear eW HW p0 p1 p2 p3
  refine C.out.mono ?_
  rintro e w3 ⟨v', rfl, hL, hB3⟩
  have HF3 := HF.out.keep hB3
  have hs3 := HF3.size
  have hW3 : Below W.heap.size W w3 := hW2.trans (hB3.mono hW2.size)
  clear C hW2
  cases hl : lin t with
  | er e =>
    rw [hl] at hL
    have hv : v' = .tuple #[.agg zS, .int .i64 e] := hL
    subst hv
    have HR : Hid (lin (.mk 5 0 emp [t, u]) = .er e) := by have := HN.out; rw [hl] at this; exact this
    rcases HE.out e hl with rfl | rfl
    · have HF4 := HF3.keep (bal w3 (.cells #[.slice none 0 0, .slice none 0 0, .int .i64 0] 54))
      have hR9 := rb_three HF4.res rfl (.slice none 0 0) (.slice none 0 0) (.int .i64 0)
      have hB9 := mkHid (bel_st3 (B := w.heap.size + 1) HF4.bel (by omega) (.slice none 0 0) (.slice none 0 0) (.int .i64 0))
      obtain ⟨r0, s0⟩ := txcell HF4.res 0 _ rfl
      obtain ⟨r1, s1⟩ := txcell HF4.res 1 _ rfl
      obtain ⟨r2, s2⟩ := txcell HF4.res 2 _ rfl
      clear HG HE HN hL CU HGu HEu t0 t1 t2 t3
      go_wp2_with (fail)
      obtain ⟨k0, -⟩ := txcell hR9 0 _ rfl
      obtain ⟨k1, -⟩ := txcell hR9 1 _ rfl
      obtain ⟨k2, -⟩ := txcell hR9 2 _ rfl
      exact bodyPost_ret (v := .tuple #[.agg zS, .int .i64 90]) (by simp [results, Tryz.results15, go_sem, k0, k1, k2]) rfl ⟨_, rfl, by rw [HR.out]; rfl, hB9.out⟩
    · have HF4 := HF3.keep (bal w3 (.cells #[.slice none 0 0, .slice none 0 0, .int .i64 0] 54))
      have hR9 := rb_three HF4.res rfl (.slice none 0 0) (.slice none 0 0) (.int .i64 0)
      have hB9 := mkHid (bel_st3 (B := w.heap.size + 1) HF4.bel (by omega) (.slice none 0 0) (.slice none 0 0) (.int .i64 0))
      obtain ⟨r0, s0⟩ := txcell HF4.res 0 _ rfl
      obtain ⟨r1, s1⟩ := txcell HF4.res 1 _ rfl
      obtain ⟨r2, s2⟩ := txcell HF4.res 2 _ rfl
      clear HG HE HN hL CU HGu HEu t0 t1 t2 t3
      go_wp2_with (fail)
      obtain ⟨k0, -⟩ := txcell hR9 0 _ rfl
      obtain ⟨k1, -⟩ := txcell hR9 1 _ rfl
      obtain ⟨k2, -⟩ := txcell hR9 2 _ rfl
      exact bodyPost_ret (v := .tuple #[.agg zS, .int .i64 91]) (by simp [results, Tryz.results15, go_sem, k0, k1, k2]) rfl ⟨_, rfl, by rw [HR.out]; rfl, hB9.out⟩
  | ok p =>
    rw [hl] at hL
    obtain ⟨no, co, n, c, m, d, rfl, hRd, hno, hco⟩ := hL
    have hB4 := bal w3 (.cells #[.slice no n c, .slice co m d, .int .i64 p.k] 54)
    have hR4 := rb_new w3 #[.slice no n c, .slice co m d, .int .i64 p.k] 54
    have HF4 := HF3.keep hB4
    have hW4 : Below W.heap.size W (w3.alloc (.cells #[.slice no n c, .slice co m d, .int .i64 p.k] 54)) := hW3.trans (hB4.mono hW3.size)
    obtain ⟨b0, -⟩ := txcell HF4.box 0 _ rfl
    obtain ⟨b3, -⟩ := txcell HF4.box 3 _ rfl
    have p0 : (w3.alloc (.cells #[.slice no n c, .slice co m d, .int .i64 p.k] 54)).cell? ⟨g, of + 4, none⟩ = some f0 := (hW4.cell (p := ⟨g, of + 4, none⟩) hg).trans t0
    have p1 : (w3.alloc (.cells #[.slice no n c, .slice co m d, .int .i64 p.k] 54)).cell? ⟨g, of + 5, none⟩ = some f1 := (hW4.cell (p := ⟨g, of + 5, none⟩) hg).trans t1
    have p2 : (w3.alloc (.cells #[.slice no n c, .slice co m d, .int .i64 p.k] 54)).cell? ⟨g, of + 6, none⟩ = some f2 := (hW4.cell (p := ⟨g, of + 6, none⟩) hg).trans t2
    have p3 : (w3.alloc (.cells #[.slice no n c, .slice co m d, .int .i64 p.k] 54)).cell? ⟨g, of + 7, none⟩ = some f3 := (hW4.cell (p := ⟨g, of + 7, none⟩) hg).trans t3
    have hs4 : w3.heap.size + 1 ≤ (w3.alloc (.cells #[.slice no n c, .slice co m d, .int .i64 p.k] 54)).heap.size := by simp
    clear t0 t1 t2 t3
    go_wp2_with (fail)
    generalize w3.alloc (.cells #[.slice no n c, .slice co m d, .int .i64 p.k] 54) = w4 at hB4 hR4 HF4 hW4 hs4 ⊢
    clear b0 b3 p0 p1 p2 p3
    refine (CU.out w4 hW4).mono ?_
    rintro e w5 ⟨v', rfl, hL2, hB5⟩
    have HF5 := HF4.keep hB5
    have hR5 := hR4.keep hB5
    have hs5 : w.heap.size + 2 ≤ w5.heap.size := HF5.size
    have hs5' : w4.heap.size ≤ w5.heap.size := hB5.size
    clear CU
    cases hm : lin u with
    | er e =>
      rw [hm] at hL2
      have hv : v' = .tuple #[.agg zS, .int .i64 e] := hL2
      subst hv
      have HR : Hid (lin (.mk 5 0 emp [t, u]) = .er e) := by have := HN.out; rw [hl, hm] at this; exact this
      rcases HEu.out e hm with rfl | rfl
      · have HF4 := HF5.keep (bal w5 (.cells #[.slice none 0 0, .slice none 0 0, .int .i64 0] 54))
        have hR9 := rb_three HF4.res rfl (.slice none 0 0) (.slice none 0 0) (.int .i64 0)
        have hB9 := mkHid (bel_st3 (B := w.heap.size + 1) HF4.bel (by omega) (.slice none 0 0) (.slice none 0 0) (.int .i64 0))
        obtain ⟨r0, s0⟩ := txcell HF4.res 0 _ rfl
        obtain ⟨r1, s1⟩ := txcell HF4.res 1 _ rfl
        obtain ⟨r2, s2⟩ := txcell HF4.res 2 _ rfl
        clear HG HE HN hL2 HGu HEu hRd
        go_wp2_with (fail)
        obtain ⟨k0, -⟩ := txcell hR9 0 _ rfl
        obtain ⟨k1, -⟩ := txcell hR9 1 _ rfl
        obtain ⟨k2, -⟩ := txcell hR9 2 _ rfl
        exact bodyPost_ret (v := .tuple #[.agg zS, .int .i64 90]) (by simp [results, Tryz.results15, go_sem, k0, k1, k2]) rfl ⟨_, rfl, by rw [HR.out]; rfl, hB9.out⟩
      · have HF4 := HF5.keep (bal w5 (.cells #[.slice none 0 0, .slice none 0 0, .int .i64 0] 54))
        have hR9 := rb_three HF4.res rfl (.slice none 0 0) (.slice none 0 0) (.int .i64 0)
        have hB9 := mkHid (bel_st3 (B := w.heap.size + 1) HF4.bel (by omega) (.slice none 0 0) (.slice none 0 0) (.int .i64 0))
        obtain ⟨r0, s0⟩ := txcell HF4.res 0 _ rfl
        obtain ⟨r1, s1⟩ := txcell HF4.res 1 _ rfl
        obtain ⟨r2, s2⟩ := txcell HF4.res 2 _ rfl
        clear HG HE HN hL2 HGu HEu hRd
        go_wp2_with (fail)
        obtain ⟨k0, -⟩ := txcell hR9 0 _ rfl
        obtain ⟨k1, -⟩ := txcell hR9 1 _ rfl
        obtain ⟨k2, -⟩ := txcell hR9 2 _ rfl
        exact bodyPost_ret (v := .tuple #[.agg zS, .int .i64 91]) (by simp [results, Tryz.results15, go_sem, k0, k1, k2]) rfl ⟨_, rfl, by rw [HR.out]; rfl, hB9.out⟩
    | ok q =>
      rw [hm] at hL2
      obtain ⟨qo, qc, qn, qk, qm, qd, rfl, hRq, hqo, hqc⟩ := hL2
      have HR : Hid (lin (.mk 5 0 emp [t, u]) = prdS p q) := HN.out.trans (by rw [hl, hm]; exact (if_neg (by decide)).trans (if_neg (by decide)))
      have hB6 := bal w5 (.cells #[.slice qo qn qk, .slice qc qm qd, .int .i64 q.k] 54)
      have hB46 := bt2 hB4 (bt2 hB5 hB6)
      have HF6 := HF5.keep hB6
      have hR6 := hR5.keep hB6
      obtain ⟨b0, -⟩ := txcell HF6.box 0 _ rfl
      obtain ⟨e0, -⟩ := txcell hR6 0 _ rfl
      obtain ⟨e1, -⟩ := txcell hR6 1 _ rfl
      obtain ⟨e2, -⟩ := txcell hR6 2 _ rfl
      have hs6 : w5.heap.size + 1 ≤ (w5.alloc (.cells #[.slice qo qn qk, .slice qc qm qd, .int .i64 q.k] 54)).heap.size := by simp
      have C := mkHid (product_at p q nmB (w.heap.size + 2) no co qo qc n c m d qn qk qm qd _ (hRd.below hB46) (hRq.below hB6) (HG.out p hl) (HGu.out q hm) (hno.mono (by omega)) (hqo.mono (by omega)) (by omega))
      clear HE HEu HG HGu HN
      go_wp2_with (fail)
      refine C.out.mono ?_
      rintro e w7 ⟨v5, rfl, hL5, hB7⟩
      have HF7 := HF6.keep hB7
      obtain ⟨xo, xn, xc, yo, yn, yc, k, e, rfl⟩ := hL5.shape
      have hL9 := mkHid ((hL5.mono (B' := w.heap.size + 2) (by omega)).st3 (X := w.heap.size + 1) (by omega) (.slice xo xn xc) (.slice yo yn yc) (.int .i64 k))
      have hR9 := rb_three HF7.res rfl (.slice xo xn xc) (.slice yo yn yc) (.int .i64 k)
      have hB9 := mkHid (bel_st3 (B := w.heap.size + 1) HF7.bel (by omega) (.slice xo xn xc) (.slice yo yn yc) (.int .i64 k))
      obtain ⟨r0, s0⟩ := txcell HF7.res 0 _ rfl
      obtain ⟨r1, s1⟩ := txcell HF7.res 1 _ rfl
      obtain ⟨r2, s2⟩ := txcell HF7.res 2 _ rfl
      clear C hL5 hRd hRq
      go_wp2_with (fail)
      obtain ⟨k0, -⟩ := txcell hR9 0 _ rfl
      obtain ⟨k1, -⟩ := txcell hR9 1 _ rfl
      obtain ⟨k2, -⟩ := txcell hR9 2 _ rfl
      exact bodyPost_ret (v := .tuple #[.agg #[.slice xo xn xc, .slice yo yn yc, .int .i64 k], .int .i64 e]) (by simp [results, Tryz.results15, go_sem, k0, k1, k2]) rfl ⟨_, rfl, by rw [HR.out]; exact hL9.out.mono (by omega), hB9.out⟩
theorem linear_at : ∀ t, t.all (wellT nmB) = true → LinC t := wt_ind linear_num linear_name linear_neg (fun o t u ho ht hu iht ihu => by
  rcases ho with rfl | rfl | rfl
  · exact linear_two3 t u ht hu iht ihu
  · exact linear_two4 t u ht hu iht ihu
  · exact linear_two5 t u ht hu iht ihu)
end Go.Proofs.YtiapkblebbcfbaaGreat.Gl
