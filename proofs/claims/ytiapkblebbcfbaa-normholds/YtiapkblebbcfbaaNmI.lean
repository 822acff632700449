/- The program's linear: negation. -/
import Derived.Test.YtiapkblebbcfbaaNmG
namespace Go.Proofs.Ytiapkblebbcfbaa.Gl
open Go.RowKit
set_option linter.unusedVariables false
set_option linter.unusedSimpArgs false

set_option maxRecDepth 100000 in
set_option maxHeartbeats 4000000 in
theorem linear_neg (t : Tm) (ht : t.all (wellT nmB) = true) (ih : LinC t) : LinC (.mk 2 0 emp [t]) := by
  rintro W v w ⟨c0, c1, c2, c3, rfl, hr⟩ hW hsz
  rw [RdT] at hr
  obtain ⟨rfl, rfl, rfl, -, ao, cap, rfl, hcap, hcm, hk⟩ := hr
  obtain ⟨g, of, d0, d1, d2, d3, rfl, q0, q1, q2, q3, hrt, hg⟩ := one_kid hk
  have hst : t.size ≤ 499 := by have := hsz; simp only [Tm.size, Tm.sizeL] at this; omega
  have hcap' : 1 ≤ cap := hcap
  have HG : Hid (∀ p, lin t = .ok p → p.good nmB 500) := fun p hp => (lin_good nmB t ht p hp).mono (by omega)
  have HE : Hid (∀ e, lin t = .er e → e = 90 ∨ e = 91) := lin_er nmB t ht
  have HN : Hid _ := lin_neg 0 emp t
  have HF := mkHid (fr2_new w (.int .i64 2) (.int .i64 0) (.string emp) (.slice (some ⟨g, of, none⟩) 1 cap))
  generalize hw2 : (w.alloc (.cells #[.int .i64 2, .int .i64 0, .string emp, .slice (some ⟨g, of, none⟩) 1 cap] 35)).alloc (.cells #[.slice none 0 0, .slice none 0 0, .int .i64 0] 58) = w2 at HF
  have hB2 := HF.out.bel
  have hW2 : Below W.heap.size W w2 := hW.trans (hB2.mono hW.size)
  have C := mkHid (ih W (.agg #[d0, d1, d2, d3]) w2 ⟨_, _, _, _, rfl, hrt⟩ hW2 (by omega))
  have p0 : w2.cell? ⟨g, of, none⟩ = some d0 := (hW2.cell (p := ⟨g, of, none⟩) hg).trans q0
  have p1 : w2.cell? ⟨g, of + 1, none⟩ = some d1 := (hW2.cell (p := ⟨g, of + 1, none⟩) hg).trans q1
  have p2 : w2.cell? ⟨g, of + 2, none⟩ = some d2 := (hW2.cell (p := ⟨g, of + 2, none⟩) hg).trans q2
  have p3 : w2.cell? ⟨g, of + 3, none⟩ = some d3 := (hW2.cell (p := ⟨g, of + 3, none⟩) hg).trans q3
  rw [← hw2] at p0 p1 p2 p3
  have HW : Hid ((w.alloc (.cells #[.int .i64 2, .int .i64 0, .string emp, .slice (some ⟨g, of, none⟩) 1 cap] 35)).alloc (.cells #[.slice none 0 0, .slice none 0 0, .int .i64 0] 58) = w2) := hw2
  clear hw2 ih q0 q1 q2 q3 hrt hk hB2 hW2
  go_enter Try.func24, Try.ntmps24
  go_wp2_with (fail)
  have eW := HW.out
  rw [eW]
  clear eW HW p0 p1 p2 p3
  refine C.out.mono ?_
  rintro e w3 ⟨v', rfl, hL, hB3⟩
  have HF3 := HF.out.keep hB3
  have hs3 := HF3.size
  clear C
  cases hl : lin t with
  | er e =>
    rw [hl] at hL
    have hv : v' = .tuple #[.agg zS, .int .i64 e] := hL
    subst hv
    have HR : Hid (lin (.mk 2 0 emp [t]) = .er e) := by have := HN.out; rw [hl] at this; exact this
    rcases HE.out e hl with rfl | rfl
    · have HF4 := HF3.keep (bal w3 (.cells #[.slice none 0 0, .slice none 0 0, .int .i64 0] 58))
      have hR9 := rb_three HF4.res rfl (.slice none 0 0) (.slice none 0 0) (.int .i64 0)
      have hB9 := mkHid (bel_st3 (B := w.heap.size + 1) HF4.bel (by omega) (.slice none 0 0) (.slice none 0 0) (.int .i64 0))
      obtain ⟨r0, s0⟩ := txcell HF4.res 0 _ rfl
      obtain ⟨r1, s1⟩ := txcell HF4.res 1 _ rfl
      obtain ⟨r2, s2⟩ := txcell HF4.res 2 _ rfl
      clear HG HE HN hL
      go_wp2_with (fail)
      obtain ⟨k0, -⟩ := txcell hR9 0 _ rfl
      obtain ⟨k1, -⟩ := txcell hR9 1 _ rfl
      obtain ⟨k2, -⟩ := txcell hR9 2 _ rfl
      exact bodyPost_ret (v := .tuple #[.agg zS, .int .i64 90]) (by simp [results, Try.results24, go_sem, k0, k1, k2]) rfl ⟨_, rfl, by rw [HR.out]; rfl, hB9.out⟩
    · have HF4 := HF3.keep (bal w3 (.cells #[.slice none 0 0, .slice none 0 0, .int .i64 0] 58))
      have hR9 := rb_three HF4.res rfl (.slice none 0 0) (.slice none 0 0) (.int .i64 0)
      have hB9 := mkHid (bel_st3 (B := w.heap.size + 1) HF4.bel (by omega) (.slice none 0 0) (.slice none 0 0) (.int .i64 0))
      obtain ⟨r0, s0⟩ := txcell HF4.res 0 _ rfl
      obtain ⟨r1, s1⟩ := txcell HF4.res 1 _ rfl
      obtain ⟨r2, s2⟩ := txcell HF4.res 2 _ rfl
      clear HG HE HN hL
      go_wp2_with (fail)
      obtain ⟨k0, -⟩ := txcell hR9 0 _ rfl
      obtain ⟨k1, -⟩ := txcell hR9 1 _ rfl
      obtain ⟨k2, -⟩ := txcell hR9 2 _ rfl
      exact bodyPost_ret (v := .tuple #[.agg zS, .int .i64 91]) (by simp [results, Try.results24, go_sem, k0, k1, k2]) rfl ⟨_, rfl, by rw [HR.out]; rfl, hB9.out⟩
  | ok p =>
    rw [hl] at hL
    obtain ⟨no, co, n, c, m, d, rfl, hRd, hno, hco⟩ := hL
    have HR : Hid (lin (.mk 2 0 emp [t]) = mkS (cmb (fun a b => a - b) nilS p)) := by have := HN.out; rw [hl] at this; exact this
    have hB4 := bal w3 (.cells #[.slice no n c, .slice co m d, .int .i64 p.k] 58)
    have HF4 := HF3.keep hB4
    obtain ⟨b0, -⟩ := txcell HF4.box 0 _ rfl
    have C := mkHid (combine_at 42 (fun a b => a - b) opc_sub nilS p nmB none none no co 0 0 0 0 n c m d _ (rdsm_nil _) (hRd.below hB4) ((nilS_good nmB).mono (Nat.zero_le _)) (HG.out p hl))
    have hs4 : w3.heap.size ≤ (w3.alloc (.cells #[.slice no n c, .slice co m d, .int .i64 p.k] 58)).heap.size := hB4.size
    go_wp2_with (fail)
    refine C.out.mono ?_
    rintro e w5 ⟨v5, rfl, hL5, hB5⟩
    have HF5 := HF4.keep hB5
    obtain ⟨xo, xn, xc, yo, yn, yc, k, e, rfl⟩ := hL5.b.shape
    have hL9 := mkHid ((hL5.b.mono (B' := w.heap.size + 2) (by omega)).st3 (X := w.heap.size + 1) (by omega) (.slice xo xn xc) (.slice yo yn yc) (.int .i64 k))
    have hR9 := rb_three HF5.res rfl (.slice xo xn xc) (.slice yo yn yc) (.int .i64 k)
    have hB9 := mkHid (bel_st3 (B := w.heap.size + 1) HF5.bel (by omega) (.slice xo xn xc) (.slice yo yn yc) (.int .i64 k))
    obtain ⟨r0, s0⟩ := txcell HF5.res 0 _ rfl
    obtain ⟨r1, s1⟩ := txcell HF5.res 1 _ rfl
    obtain ⟨r2, s2⟩ := txcell HF5.res 2 _ rfl
    clear C hL5 HG HE HN hRd
    go_wp2_with (fail)
    obtain ⟨k0, -⟩ := txcell hR9 0 _ rfl
    obtain ⟨k1, -⟩ := txcell hR9 1 _ rfl
    obtain ⟨k2, -⟩ := txcell hR9 2 _ rfl
    exact bodyPost_ret (v := .tuple #[.agg #[.slice xo xn xc, .slice yo yn yc, .int .i64 k], .int .i64 e]) (by simp [results, Try.results24, go_sem, k0, k1, k2]) rfl ⟨_, rfl, by rw [HR.out]; exact hL9.out.mono (by omega), hB9.out⟩
end Go.Proofs.Ytiapkblebbcfbaa.Gl
