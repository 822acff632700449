/- The program's linear. -/
import Derived.Test.YtiapkblebbcfbaaNmF
import Derived.Test.YtiapkblebbcfbaaNmD
import Derived.Test.YtiapkblebbcfbaaLyS
namespace Go.Proofs.Ytiapkblebbcfbaa.Gl
open Go.RowKit
set_option linter.unusedVariables false
set_option linter.unusedSimpArgs false

theorem name_small {x : ByteArray} (h : IsName x) : x.size ≤ 4096 := by
  obtain ⟨⟨n, hc, _, hn, _⟩, _⟩ := h
  have key : ∀ k, k ≤ n → pos x k ≤ 4 * k := by
    intro k
    induction k with
    | zero => intro _; exact Nat.le_refl _
    | succ k ih =>
      intro hk
      have := (rd_bd x (pos x k) (hc.2 k (by omega))).2.2
      have := ih (by omega)
      rw [pos_succ]; omega
  have := key n (Nat.le_refl _)
  have h1 := hc.1
  omega
theorem nclone_at (t : ByteArray) (w : World) (ht : t.size ≤ 4096) :
    Calls Try.prog 40 #[.string t] w fun e w' => e = .returned (.string t) ∧ Below w.heap.size w w' := by
  have K : Hid (∀ w, Calls Try.prog 62 #[.string t] w fun e w' => e = .returned (.string t) ∧ Below w.heap.size w w') := fun w => clone_lib t w (by omega)
  go_enter Try.func40, Try.ntmps40
  go_wp2_with (go_at_call 62; refine (K.out _).mono ?_; rintro e w2 ⟨rfl, hB2⟩)
  go_ret
  exact ⟨rfl, hB2⟩
theorem lin_er (nm : ByteArray → Bool) : ∀ t, t.all (wellT nm) = true → ∀ e, lin t = .er e → e = 90 ∨ e = 91 := by
  have mk : ∀ s e, mkS s = .er e → e = 90 ∨ e = 91 := fun s e h => by
    unfold mkS at h
    split at h
    · cases h
    · cases h; exact .inr rfl
  refine wt_ind ?_ ?_ ?_ ?_
  · intro n hn e he
    rw [lin_num] at he
    exact mk _ _ he
  · intro x hx e he
    rw [lin_name] at he
    cases he
  · intro t ht ih e he
    rw [lin_neg] at he
    cases hl : lin t with
    | er f => rw [hl] at he; cases he; exact ih _ hl
    | ok p => rw [hl] at he; exact mk _ _ he
  · intro o t u ho ht hu iht ihu e he
    rw [lin_two ho] at he
    cases hl : lin t with
    | er f => rw [hl] at he; cases he; exact iht _ hl
    | ok p =>
      cases hm : lin u with
      | er f => rw [hl, hm] at he; cases he; exact ihu _ hm
      | ok q =>
        rw [hl, hm] at he
        dsimp only at he
        split at he
        · exact mk _ _ he
        · split at he
          · exact mk _ _ he
          · unfold prdS at he
            split at he
            · exact mk _ _ he
            · split at he
              · exact mk _ _ he
              · cases he; exact .inl rfl
theorem rds_nil (w : World) : RdS w none 0 0 [] := ⟨rfl, Nat.le_refl _, by omega, fun _ => rfl, fun i hi => by omega⟩
theorem rdsm_nil (w : World) : RdSm w nilS none none 0 0 0 0 := ⟨rds_nil w, rdz_nil w⟩
/-- what linear answers -/
def LinC (t : Tm) : Prop := ∀ (W : World) (v : Value) (w : World), TmV W t v → Below W.heap.size W w → t.size ≤ 500 →
  Calls Try.prog 24 #[v] w fun e w' => ∃ v', e = .returned v' ∧ LrB w.heap.size w' (lin t) v' ∧ Below w.heap.size w w'
/-- a term's box and the result's -/
structure Fr2 (w w2 : World) (c0 c1 c2 c3 : Value) : Prop where
  box : Rb w2 w.heap.size #[c0, c1, c2, c3] 35
  res : Rb w2 (w.heap.size + 1) zS 58
  bel : Below w.heap.size w w2
  size : w.heap.size + 2 ≤ w2.heap.size
theorem Fr2.keep {w w2 w3 : World} {c0 c1 c2 c3 : Value} (h : Fr2 w w2 c0 c1 c2 c3) (hb : Below w2.heap.size w2 w3) : Fr2 w w3 c0 c1 c2 c3 :=
  ⟨h.box.keep hb, h.res.keep hb, bt2 h.bel hb, Nat.le_trans h.size hb.size⟩
theorem fr2_new (w : World) (c0 c1 c2 c3 : Value) : Fr2 w ((w.alloc (.cells #[c0, c1, c2, c3] 35)).alloc (.cells #[.slice none 0 0, .slice none 0 0, .int .i64 0] 58)) c0 c1 c2 c3 := by
  have h1 := rb_new w #[c0, c1, c2, c3] 35
  have h2 := rb_new (w.alloc (.cells #[c0, c1, c2, c3] 35)) zS 58
  rw [show (w.alloc (.cells #[c0, c1, c2, c3] 35)).heap.size = w.heap.size + 1 from by simp] at h2
  exact ⟨h1.keep (bal _ _), h2, bt2 (bal w _) (bal _ _), by simp⟩
theorem two_kids {W : World} {t u : Tm} {ao : Option Addr} (h : RdTL W [t, u] ao 0) : ∃ g of c0 c1 c2 c3 d0 d1 d2 d3, ao = some ⟨g, of, none⟩ ∧ W.cell? ⟨g, of, none⟩ = some c0 ∧ W.cell? ⟨g, of + 1, none⟩ = some c1 ∧ W.cell? ⟨g, of + 2, none⟩ = some c2 ∧ W.cell? ⟨g, of + 3, none⟩ = some c3 ∧ RdT W t c0 c1 c2 c3 ∧
    W.cell? ⟨g, of + 4, none⟩ = some d0 ∧ W.cell? ⟨g, of + 5, none⟩ = some d1 ∧ W.cell? ⟨g, of + 6, none⟩ = some d2 ∧ W.cell? ⟨g, of + 7, none⟩ = some d3 ∧ RdT W u d0 d1 d2 d3 ∧ g < W.heap.size := by
  rw [RdTL, RdTL] at h
  obtain ⟨⟨g, of, c0, c1, c2, c3, rfl, hg, h0, h1, h2, h3, hr⟩, ⟨g', of', d0, d1, d2, d3, e, hg', k0, k1, k2, k3, kr⟩, -⟩ := h
  cases e
  exact ⟨g, of, c0, c1, c2, c3, d0, d1, d2, d3, rfl, h0, h1, h2, h3, hr, k0, k1, k2, k3, kr, hg⟩
theorem one_kid {W : World} {t : Tm} {ao : Option Addr} (h : RdTL W [t] ao 0) : ∃ g of c0 c1 c2 c3, ao = some ⟨g, of, none⟩ ∧ W.cell? ⟨g, of, none⟩ = some c0 ∧ W.cell? ⟨g, of + 1, none⟩ = some c1 ∧ W.cell? ⟨g, of + 2, none⟩ = some c2 ∧ W.cell? ⟨g, of + 3, none⟩ = some c3 ∧ RdT W t c0 c1 c2 c3 ∧ g < W.heap.size := by
  rw [RdTL] at h
  obtain ⟨⟨g, of, c0, c1, c2, c3, rfl, hg, h0, h1, h2, h3, hr⟩, -⟩ := h
  exact ⟨g, of, c0, c1, c2, c3, rfl, h0, h1, h2, h3, hr, hg⟩
end Go.Proofs.Ytiapkblebbcfbaa.Gl
/- The program's linear: numbers, names, negation. -/
namespace Go.Proofs.Ytiapkblebbcfbaa.Gl
open Go.RowKit
set_option linter.unusedVariables false
set_option linter.unusedSimpArgs false

set_option maxRecDepth 100000 in
set_option maxHeartbeats 4000000 in
theorem linear_num (n : Int) (hn : 0 ≤ n) : LinC (.mk 0 n emp []) := by
  rintro W v w ⟨c0, c1, c2, c3, rfl, hr⟩ hW hsz
  rw [RdT] at hr
  obtain ⟨rfl, rfl, rfl, ⟨-, hi, -⟩, ao, cap, rfl, -, -, -⟩ := hr
  have HF := mkHid (fr2_new w (.int .i64 0) (.int .i64 n) (.string emp) (.slice ao 0 cap))
  have HL : Hid (lin (.mk 0 n emp []) = .ok ⟨[], [], n⟩) := by show _ = _; rw [lin_num]; exact mkS_yes (by show (([] : List Int).all in64 && in64 n) = true; rw [(in64_iff n).2 hi]; rfl)
  go_enter Try.func24, Try.ntmps24
  go_wp2_with (fail)
  refine bodyPost_ret (v := .tuple #[.agg #[.slice none 0 0, .slice none 0 0, .int .i64 n], .int .i64 0]) (by simp [results, Try.results24, go_sem]) rfl ⟨_, rfl, ?_, ?_⟩
  · rw [HL.out]
    exact ⟨none, none, 0, 0, 0, 0, rfl, ⟨rds_nil _, rdz_nil _⟩, newA_none _, newA_none _⟩
  · first
      | exact bt2 (bal _ _) (bal _ _)
      | exact HF.out.bel
      | exact bel_st3 HF.out.bel (by omega) _ _ _
      | exact HF.out.bel.setCell (p := ⟨w.heap.size + 1, 2, none⟩) (by show w.heap.size ≤ w.heap.size + 1; omega) _
set_option maxRecDepth 100000 in
set_option maxHeartbeats 4000000 in
theorem linear_name (x : ByteArray) (hx : nmB x = true) : LinC (.mk 1 0 x []) := by
  rintro W v w ⟨c0, c1, c2, c3, rfl, hr⟩ hW hsz
  rw [RdT] at hr
  obtain ⟨rfl, rfl, rfl, -, ao, cap, rfl, -, -, -⟩ := hr
  have hx2 := name_small ((nmB_iff x).1 hx)
  have HF := mkHid (fr2_new w (.int .i64 1) (.int .i64 0) (.string x) (.slice ao 0 cap))
  go_enter Try.func24, Try.ntmps24
  go_wp2_with (fail)
  generalize ((w.alloc (.cells #[.int .i64 1, .int .i64 0, .string x, .slice ao 0 cap] 35)).alloc (.cells #[.slice none 0 0, .slice none 0 0, .int .i64 0] 58)) = w2 at HF ⊢
  refine (nclone_at x w2 hx2).mono ?_
  rintro e w3 ⟨rfl, hB3⟩
  have HF3 := HF.out.keep hB3
  have HF4 := HF3.keep (bal w3 (.cells #[.string x] 9))
  have HF5 := HF4.keep (bal (w3.alloc (.cells #[.string x] 9)) (.cells #[.int .i64 1] 2))
  obtain ⟨r0, s0⟩ := txcell HF5.res 0 _ rfl
  obtain ⟨r1, s1⟩ := txcell HF5.res 1 _ rfl
  obtain ⟨r2, s2⟩ := txcell HF5.res 2 _ rfl
  have hs3 : w.heap.size + 2 ≤ w3.heap.size := HF3.size
  have hS := rds_built w3 [x] 1 9 w3.heap.size rfl rfl (by decide)
  have hZ := rdz_built (w3.alloc (.cells #[.string x] 9)) [1] 1 2 (w3.heap.size + 1) (by simp) rfl (by decide)
  have hS5 := mkHid (rds_st3 (X := w.heap.size + 1) (hS.below (Nat.le_refl _) (bal _ (.cells #[.int .i64 1] 2))) (fun ad e => by cases e; show w3.heap.size ≠ _; omega) (.slice (some ⟨w3.heap.size, 0, none⟩) 1 1) (.slice (some ⟨w3.heap.size + 1, 0, none⟩) 1 1) (.int .i64 0))
  have hZ5 := mkHid (rdz_st3 (X := w.heap.size + 1) hZ (fun ad e => by cases e; show w3.heap.size + 1 ≠ _; omega) (.slice (some ⟨w3.heap.size, 0, none⟩) 1 1) (.slice (some ⟨w3.heap.size + 1, 0, none⟩) 1 1) (.int .i64 0))
  have hR9 := rb_three HF5.res rfl (.slice (some ⟨w3.heap.size, 0, none⟩) 1 1) (.slice (some ⟨w3.heap.size + 1, 0, none⟩) 1 1) (.int .i64 0)
  have hB9 := mkHid (bel_st3 (B := w.heap.size + 1) HF5.bel (by omega) (.slice (some ⟨w3.heap.size, 0, none⟩) 1 1) (.slice (some ⟨w3.heap.size + 1, 0, none⟩) 1 1) (.int .i64 0))
  clear hS hZ
  go_wp2_with (fail)
  obtain ⟨k0, -⟩ := txcell hR9 0 _ rfl
  obtain ⟨k1, -⟩ := txcell hR9 1 _ rfl
  obtain ⟨k2, -⟩ := txcell hR9 2 _ rfl
  refine bodyPost_ret (v := .tuple #[.agg #[.slice (some ⟨w3.heap.size, 0, none⟩) 1 1, .slice (some ⟨w3.heap.size + 1, 0, none⟩) 1 1, .int .i64 0], .int .i64 0]) (by simp [results, Try.results24, go_sem, k0, k1, k2]) rfl ⟨_, rfl, ?_, hB9.out⟩
  rw [lin_name]
  exact ⟨_, _, 1, 1, 1, 1, rfl, ⟨hS5.out, hZ5.out⟩, fun ad e => by cases e; show w.heap.size ≤ w3.heap.size; omega, fun ad e => by cases e; show w.heap.size ≤ w3.heap.size + 1; omega⟩
end Go.Proofs.Ytiapkblebbcfbaa.Gl
/- The program's linear: negation. -/
namespace Go.Proofs.Ytiapkblebbcfbaa.Gl
open Go.RowKit
set_option linter.unusedVariables false
set_option linter.unusedSimpArgs false

set_option maxRecDepth 100000 in
set_option maxHeartbeats 4000000 in
theorem linear_neg (t : Tm) (ht : t.all (wellT nmB) = true) (ih : LinC t) : LinC (.mk 2 0 emp [t]) := by
  rintro W v w ⟨c0, c1, c2, c3, rfl, hr⟩ hW hsz
  rw [RdT] at hr
  obtain ⟨rfl, rfl, rfl, -, ao, cap, rfl, hcap, hcm, hk⟩ := hr
  obtain ⟨g, of, d0, d1, d2, d3, rfl, q0, q1, q2, q3, hrt, hg⟩ := one_kid hk
  have hst : t.size ≤ 499 := by have := hsz; simp only [Tm.size, Tm.sizeL] at this; omega
  have hcap' : 1 ≤ cap := hcap
  have HG : Hid (∀ p, lin t = .ok p → p.good nmB 500) := fun p hp => (lin_good nmB t ht p hp).mono (by omega)
  have HE : Hid (∀ e, lin t = .er e → e = 90 ∨ e = 91) := lin_er nmB t ht
  have HN : Hid _ := lin_neg 0 emp t
  have HF := mkHid (fr2_new w (.int .i64 2) (.int .i64 0) (.string emp) (.slice (some ⟨g, of, none⟩) 1 cap))
  generalize hw2 : (w.alloc (.cells #[.int .i64 2, .int .i64 0, .string emp, .slice (some ⟨g, of, none⟩) 1 cap] 35)).alloc (.cells #[.slice none 0 0, .slice none 0 0, .int .i64 0] 58) = w2 at HF
  have hB2 := HF.out.bel
  have hW2 : Below W.heap.size W w2 := hW.trans (hB2.mono hW.size)
  have C := mkHid (ih W (.agg #[d0, d1, d2, d3]) w2 ⟨_, _, _, _, rfl, hrt⟩ hW2 (by omega))
  have p0 : w2.cell? ⟨g, of, none⟩ = some d0 := (hW2.cell (p := ⟨g, of, none⟩) hg).trans q0
  have p1 : w2.cell? ⟨g, of + 1, none⟩ = some d1 := (hW2.cell (p := ⟨g, of + 1, none⟩) hg).trans q1
  have p2 : w2.cell? ⟨g, of + 2, none⟩ = some d2 := (hW2.cell (p := ⟨g, of + 2, none⟩) hg).trans q2
  have p3 : w2.cell? ⟨g, of + 3, none⟩ = some d3 := (hW2.cell (p := ⟨g, of + 3, none⟩) hg).trans q3
  rw [← hw2] at p0 p1 p2 p3
  have HW : Hid ((w.alloc (.cells #[.int .i64 2, .int .i64 0, .string emp, .slice (some ⟨g, of, none⟩) 1 cap] 35)).alloc (.cells #[.slice none 0 0, .slice none 0 0, .int .i64 0] 58) = w2) := hw2
  clear hw2 ih q0 q1 q2 q3 hrt hk hB2 hW2
  go_enter Try.func24, Try.ntmps24
  go_wp2_with (fail)
  have eW := HW.out
  rw [eW]
  clear eW HW p0 p1 p2 p3
  refine C.out.mono ?_
  rintro e w3 ⟨v', rfl, hL, hB3⟩
  have HF3 := HF.out.keep hB3
  have hs3 := HF3.size
  clear C
  cases hl : lin t with
  | er e =>
    rw [hl] at hL
    have hv : v' = .tuple #[.agg zS, .int .i64 e] := hL
    subst hv
    have HR : Hid (lin (.mk 2 0 emp [t]) = .er e) := by have := HN.out; rw [hl] at this; exact this
    rcases HE.out e hl with rfl | rfl
    · have HF4 := HF3.keep (bal w3 (.cells #[.slice none 0 0, .slice none 0 0, .int .i64 0] 58))
      have hR9 := rb_three HF4.res rfl (.slice none 0 0) (.slice none 0 0) (.int .i64 0)
      have hB9 := mkHid (bel_st3 (B := w.heap.size + 1) HF4.bel (by omega) (.slice none 0 0) (.slice none 0 0) (.int .i64 0))
      obtain ⟨r0, s0⟩ := txcell HF4.res 0 _ rfl
      obtain ⟨r1, s1⟩ := txcell HF4.res 1 _ rfl
      obtain ⟨r2, s2⟩ := txcell HF4.res 2 _ rfl
      clear HG HE HN hL
      go_wp2_with (fail)
      obtain ⟨k0, -⟩ := txcell hR9 0 _ rfl
      obtain ⟨k1, -⟩ := txcell hR9 1 _ rfl
      obtain ⟨k2, -⟩ := txcell hR9 2 _ rfl
      exact bodyPost_ret (v := .tuple #[.agg zS, .int .i64 90]) (by simp [results, Try.results24, go_sem, k0, k1, k2]) rfl ⟨_, rfl, by rw [HR.out]; rfl, hB9.out⟩
    · have HF4 := HF3.keep (bal w3 (.cells #[.slice none 0 0, .slice none 0 0, .int .i64 0] 58))
      have hR9 := rb_three HF4.res rfl (.slice none 0 0) (.slice none 0 0) (.int .i64 0)
      have hB9 := mkHid (bel_st3 (B := w.heap.size + 1) HF4.bel (by omega) (.slice none 0 0) (.slice none 0 0) (.int .i64 0))
      obtain ⟨r0, s0⟩ := txcell HF4.res 0 _ rfl
      obtain ⟨r1, s1⟩ := txcell HF4.res 1 _ rfl
      obtain ⟨r2, s2⟩ := txcell HF4.res 2 _ rfl
      clear HG HE HN hL
      go_wp2_with (fail)
      obtain ⟨k0, -⟩ := txcell hR9 0 _ rfl
      obtain ⟨k1, -⟩ := txcell hR9 1 _ rfl
      obtain ⟨k2, -⟩ := txcell hR9 2 _ rfl
      exact bodyPost_ret (v := .tuple #[.agg zS, .int .i64 91]) (by simp [results, Try.results24, go_sem, k0, k1, k2]) rfl ⟨_, rfl, by rw [HR.out]; rfl, hB9.out⟩
  | ok p =>
    rw [hl] at hL
    obtain ⟨no, co, n, c, m, d, rfl, hRd, hno, hco⟩ := hL
    have HR : Hid (lin (.mk 2 0 emp [t]) = mkS (cmb (fun a b => a - b) nilS p)) := by have := HN.out; rw [hl] at this; exact this
    have hB4 := bal w3 (.cells #[.slice no n c, .slice co m d, .int .i64 p.k] 58)
    have HF4 := HF3.keep hB4
    obtain ⟨b0, -⟩ := txcell HF4.box 0 _ rfl
    have C := mkHid (combine_at 42 (fun a b => a - b) opc_sub nilS p nmB none none no co 0 0 0 0 n c m d _ (rdsm_nil _) (hRd.below hB4) ((nilS_good nmB).mono (Nat.zero_le _)) (HG.out p hl))
    have hs4 : w3.heap.size ≤ (w3.alloc (.cells #[.slice no n c, .slice co m d, .int .i64 p.k] 58)).heap.size := hB4.size
    go_wp2_with (fail)
    refine C.out.mono ?_
    rintro e w5 ⟨v5, rfl, hL5, hB5⟩
    have HF5 := HF4.keep hB5
    obtain ⟨xo, xn, xc, yo, yn, yc, k, e, rfl⟩ := hL5.b.shape
    have hL9 := mkHid ((hL5.b.mono (B' := w.heap.size + 2) (by omega)).st3 (X := w.heap.size + 1) (by omega) (.slice xo xn xc) (.slice yo yn yc) (.int .i64 k))
    have hR9 := rb_three HF5.res rfl (.slice xo xn xc) (.slice yo yn yc) (.int .i64 k)
    have hB9 := mkHid (bel_st3 (B := w.heap.size + 1) HF5.bel (by omega) (.slice xo xn xc) (.slice yo yn yc) (.int .i64 k))
    obtain ⟨r0, s0⟩ := txcell HF5.res 0 _ rfl
    obtain ⟨r1, s1⟩ := txcell HF5.res 1 _ rfl
    obtain ⟨r2, s2⟩ := txcell HF5.res 2 _ rfl
    clear C hL5 HG HE HN hRd
    go_wp2_with (fail)
    obtain ⟨k0, -⟩ := txcell hR9 0 _ rfl
    obtain ⟨k1, -⟩ := txcell hR9 1 _ rfl
    obtain ⟨k2, -⟩ := txcell hR9 2 _ rfl
    exact bodyPost_ret (v := .tuple #[.agg #[.slice xo xn xc, .slice yo yn yc, .int .i64 k], .int .i64 e]) (by simp [results, Try.results24, go_sem, k0, k1, k2]) rfl ⟨_, rfl, by rw [HR.out]; exact hL9.out.mono (by omega), hB9.out⟩
end Go.Proofs.Ytiapkblebbcfbaa.Gl
/- The program's linear: sums, differences, products. -/
namespace Go.Proofs.Ytiapkblebbcfbaa.Gl
open Go.RowKit
set_option linter.unusedVariables false
set_option linter.unusedSimpArgs false

set_option maxRecDepth 100000 in
set_option maxHeartbeats 4000000 in
theorem linear_two3 (t u : Tm) (ht : t.all (wellT nmB) = true) (hu : u.all (wellT nmB) = true) (ih : LinC t) (ihu : LinC u) : LinC (.mk 3 0 emp [t, u]) := by
  rintro W v w ⟨c0, c1, c2, c3, rfl, hr⟩ hW hsz
  rw [RdT] at hr
  obtain ⟨rfl, rfl, rfl, -, ao, cap, rfl, hcap, hcm, hk⟩ := hr
  obtain ⟨g, of, d0, d1, d2, d3, f0, f1, f2, f3, rfl, q0, q1, q2, q3, hrt, t0, t1, t2, t3, hru, hg⟩ := two_kids hk
  have hst : t.size + u.size ≤ 499 := by have := hsz; simp only [Tm.size, Tm.sizeL] at this; omega
  have hcap' : 2 ≤ cap := hcap
  have HG : Hid (∀ p, lin t = .ok p → p.good nmB 500) := fun p hp => (lin_good nmB t ht p hp).mono (by omega)
  have HE : Hid (∀ e, lin t = .er e → e = 90 ∨ e = 91) := lin_er nmB t ht
  have HGu : Hid (∀ p, lin u = .ok p → p.good nmB 500) := fun p hp => (lin_good nmB u hu p hp).mono (by omega)
  have HEu : Hid (∀ e, lin u = .er e → e = 90 ∨ e = 91) := lin_er nmB u hu
  have HN : Hid _ := lin_two (o := 3) (by decide) 0 emp t u
  have HF := mkHid (fr2_new w (.int .i64 3) (.int .i64 0) (.string emp) (.slice (some ⟨g, of, none⟩) 2 cap))
  generalize hw2 : (w.alloc (.cells #[.int .i64 3, .int .i64 0, .string emp, .slice (some ⟨g, of, none⟩) 2 cap] 35)).alloc (.cells #[.slice none 0 0, .slice none 0 0, .int .i64 0] 58) = w2 at HF
  have hB2 := HF.out.bel
  have hs2 := HF.out.size
  have hW2 : Below W.heap.size W w2 := hW.trans (hB2.mono hW.size)
  have C := mkHid (ih W (.agg #[d0, d1, d2, d3]) w2 ⟨_, _, _, _, rfl, hrt⟩ hW2 (by omega))
  have CU : Hid (∀ w', Below W.heap.size W w' → Calls Try.prog 24 #[.agg #[f0, f1, f2, f3]] w' fun e w'' => ∃ v', e = .returned v' ∧ LrB w'.heap.size w'' (lin u) v' ∧ Below w'.heap.size w' w'') := fun w' h => ihu W (.agg #[f0, f1, f2, f3]) w' ⟨_, _, _, _, rfl, hru⟩ h (by omega)
  have p0 : w2.cell? ⟨g, of, none⟩ = some d0 := (hW2.cell (p := ⟨g, of, none⟩) hg).trans q0
  have p1 : w2.cell? ⟨g, of + 1, none⟩ = some d1 := (hW2.cell (p := ⟨g, of + 1, none⟩) hg).trans q1
  have p2 : w2.cell? ⟨g, of + 2, none⟩ = some d2 := (hW2.cell (p := ⟨g, of + 2, none⟩) hg).trans q2
  have p3 : w2.cell? ⟨g, of + 3, none⟩ = some d3 := (hW2.cell (p := ⟨g, of + 3, none⟩) hg).trans q3
  rw [← hw2] at p0 p1 p2 p3
  have HW : Hid ((w.alloc (.cells #[.int .i64 3, .int .i64 0, .string emp, .slice (some ⟨g, of, none⟩) 2 cap] 35)).alloc (.cells #[.slice none 0 0, .slice none 0 0, .int .i64 0] 58) = w2) := hw2
  clear hw2 ih ihu q0 q1 q2 q3 hrt hru hk hB2
  go_enter Try.func24, Try.ntmps24
  go_wp2_with (fail)
  have eW := HW.out
  rw [eW]
  clear eW HW p0 p1 p2 p3
  refine C.out.mono ?_
  rintro e w3 ⟨v', rfl, hL, hB3⟩
  have HF3 := HF.out.keep hB3
  have hs3 := HF3.size
  have hW3 : Below W.heap.size W w3 := hW2.trans (hB3.mono hW2.size)
  clear C hW2
  cases hl : lin t with
  | er e =>
    rw [hl] at hL
    have hv : v' = .tuple #[.agg zS, .int .i64 e] := hL
    subst hv
    have HR : Hid (lin (.mk 3 0 emp [t, u]) = .er e) := by have := HN.out; rw [hl] at this; exact this
    rcases HE.out e hl with rfl | rfl
    · have HF4 := HF3.keep (bal w3 (.cells #[.slice none 0 0, .slice none 0 0, .int .i64 0] 58))
      have hR9 := rb_three HF4.res rfl (.slice none 0 0) (.slice none 0 0) (.int .i64 0)
      have hB9 := mkHid (bel_st3 (B := w.heap.size + 1) HF4.bel (by omega) (.slice none 0 0) (.slice none 0 0) (.int .i64 0))
      obtain ⟨r0, s0⟩ := txcell HF4.res 0 _ rfl
      obtain ⟨r1, s1⟩ := txcell HF4.res 1 _ rfl
      obtain ⟨r2, s2⟩ := txcell HF4.res 2 _ rfl
      clear HG HE HN hL CU HGu HEu t0 t1 t2 t3
      go_wp2_with (fail)
      obtain ⟨k0, -⟩ := txcell hR9 0 _ rfl
      obtain ⟨k1, -⟩ := txcell hR9 1 _ rfl
      obtain ⟨k2, -⟩ := txcell hR9 2 _ rfl
      exact bodyPost_ret (v := .tuple #[.agg zS, .int .i64 90]) (by simp [results, Try.results24, go_sem, k0, k1, k2]) rfl ⟨_, rfl, by rw [HR.out]; rfl, hB9.out⟩
    · have HF4 := HF3.keep (bal w3 (.cells #[.slice none 0 0, .slice none 0 0, .int .i64 0] 58))
      have hR9 := rb_three HF4.res rfl (.slice none 0 0) (.slice none 0 0) (.int .i64 0)
      have hB9 := mkHid (bel_st3 (B := w.heap.size + 1) HF4.bel (by omega) (.slice none 0 0) (.slice none 0 0) (.int .i64 0))
      obtain ⟨r0, s0⟩ := txcell HF4.res 0 _ rfl
      obtain ⟨r1, s1⟩ := txcell HF4.res 1 _ rfl
      obtain ⟨r2, s2⟩ := txcell HF4.res 2 _ rfl
      clear HG HE HN hL CU HGu HEu t0 t1 t2 t3
      go_wp2_with (fail)
      obtain ⟨k0, -⟩ := txcell hR9 0 _ rfl
      obtain ⟨k1, -⟩ := txcell hR9 1 _ rfl
      obtain ⟨k2, -⟩ := txcell hR9 2 _ rfl
      exact bodyPost_ret (v := .tuple #[.agg zS, .int .i64 91]) (by simp [results, Try.results24, go_sem, k0, k1, k2]) rfl ⟨_, rfl, by rw [HR.out]; rfl, hB9.out⟩
  | ok p =>
    rw [hl] at hL
    obtain ⟨no, co, n, c, m, d, rfl, hRd, hno, hco⟩ := hL
    have hB4 := bal w3 (.cells #[.slice no n c, .slice co m d, .int .i64 p.k] 58)
    have hR4 := rb_new w3 #[.slice no n c, .slice co m d, .int .i64 p.k] 58
    have HF4 := HF3.keep hB4
    have hW4 : Below W.heap.size W (w3.alloc (.cells #[.slice no n c, .slice co m d, .int .i64 p.k] 58)) := hW3.trans (hB4.mono hW3.size)
    obtain ⟨b0, -⟩ := txcell HF4.box 0 _ rfl
    obtain ⟨b3, -⟩ := txcell HF4.box 3 _ rfl
    have p0 : (w3.alloc (.cells #[.slice no n c, .slice co m d, .int .i64 p.k] 58)).cell? ⟨g, of + 4, none⟩ = some f0 := (hW4.cell (p := ⟨g, of + 4, none⟩) hg).trans t0
    have p1 : (w3.alloc (.cells #[.slice no n c, .slice co m d, .int .i64 p.k] 58)).cell? ⟨g, of + 5, none⟩ = some f1 := (hW4.cell (p := ⟨g, of + 5, none⟩) hg).trans t1
    have p2 : (w3.alloc (.cells #[.slice no n c, .slice co m d, .int .i64 p.k] 58)).cell? ⟨g, of + 6, none⟩ = some f2 := (hW4.cell (p := ⟨g, of + 6, none⟩) hg).trans t2
    have p3 : (w3.alloc (.cells #[.slice no n c, .slice co m d, .int .i64 p.k] 58)).cell? ⟨g, of + 7, none⟩ = some f3 := (hW4.cell (p := ⟨g, of + 7, none⟩) hg).trans t3
    have hs4 : w3.heap.size + 1 ≤ (w3.alloc (.cells #[.slice no n c, .slice co m d, .int .i64 p.k] 58)).heap.size := by simp
    clear t0 t1 t2 t3
    go_wp2_with (fail)
    generalize w3.alloc (.cells #[.slice no n c, .slice co m d, .int .i64 p.k] 58) = w4 at hB4 hR4 HF4 hW4 hs4 ⊢
    clear b0 b3 p0 p1 p2 p3
    refine (CU.out w4 hW4).mono ?_
    rintro e w5 ⟨v', rfl, hL2, hB5⟩
    have HF5 := HF4.keep hB5
    have hR5 := hR4.keep hB5
    have hs5 : w.heap.size + 2 ≤ w5.heap.size := HF5.size
    have hs5' : w4.heap.size ≤ w5.heap.size := hB5.size
    clear CU
    cases hm : lin u with
    | er e =>
      rw [hm] at hL2
      have hv : v' = .tuple #[.agg zS, .int .i64 e] := hL2
      subst hv
      have HR : Hid (lin (.mk 3 0 emp [t, u]) = .er e) := by have := HN.out; rw [hl, hm] at this; exact this
      rcases HEu.out e hm with rfl | rfl
      · have HF4 := HF5.keep (bal w5 (.cells #[.slice none 0 0, .slice none 0 0, .int .i64 0] 58))
        have hR9 := rb_three HF4.res rfl (.slice none 0 0) (.slice none 0 0) (.int .i64 0)
        have hB9 := mkHid (bel_st3 (B := w.heap.size + 1) HF4.bel (by omega) (.slice none 0 0) (.slice none 0 0) (.int .i64 0))
        obtain ⟨r0, s0⟩ := txcell HF4.res 0 _ rfl
        obtain ⟨r1, s1⟩ := txcell HF4.res 1 _ rfl
        obtain ⟨r2, s2⟩ := txcell HF4.res 2 _ rfl
        clear HG HE HN hL2 HGu HEu hRd
        go_wp2_with (fail)
        obtain ⟨k0, -⟩ := txcell hR9 0 _ rfl
        obtain ⟨k1, -⟩ := txcell hR9 1 _ rfl
        obtain ⟨k2, -⟩ := txcell hR9 2 _ rfl
        exact bodyPost_ret (v := .tuple #[.agg zS, .int .i64 90]) (by simp [results, Try.results24, go_sem, k0, k1, k2]) rfl ⟨_, rfl, by rw [HR.out]; rfl, hB9.out⟩
      · have HF4 := HF5.keep (bal w5 (.cells #[.slice none 0 0, .slice none 0 0, .int .i64 0] 58))
        have hR9 := rb_three HF4.res rfl (.slice none 0 0) (.slice none 0 0) (.int .i64 0)
        have hB9 := mkHid (bel_st3 (B := w.heap.size + 1) HF4.bel (by omega) (.slice none 0 0) (.slice none 0 0) (.int .i64 0))
        obtain ⟨r0, s0⟩ := txcell HF4.res 0 _ rfl
        obtain ⟨r1, s1⟩ := txcell HF4.res 1 _ rfl
        obtain ⟨r2, s2⟩ := txcell HF4.res 2 _ rfl
        clear HG HE HN hL2 HGu HEu hRd
        go_wp2_with (fail)
        obtain ⟨k0, -⟩ := txcell hR9 0 _ rfl
        obtain ⟨k1, -⟩ := txcell hR9 1 _ rfl
        obtain ⟨k2, -⟩ := txcell hR9 2 _ rfl
        exact bodyPost_ret (v := .tuple #[.agg zS, .int .i64 91]) (by simp [results, Try.results24, go_sem, k0, k1, k2]) rfl ⟨_, rfl, by rw [HR.out]; rfl, hB9.out⟩
    | ok q =>
      rw [hm] at hL2
      obtain ⟨qo, qc, qn, qk, qm, qd, rfl, hRq, hqo, hqc⟩ := hL2
      have HR : Hid (lin (.mk 3 0 emp [t, u]) = mkS (cmb (fun a b => a + b) p q)) := HN.out.trans (by rw [hl, hm]; exact if_pos trivial)
      have hB6 := bal w5 (.cells #[.slice qo qn qk, .slice qc qm qd, .int .i64 q.k] 58)
      have hB46 := bt2 hB4 (bt2 hB5 hB6)
      have HF6 := HF5.keep hB6
      have hR6 := hR5.keep hB6
      obtain ⟨b0, -⟩ := txcell HF6.box 0 _ rfl
      obtain ⟨e0, -⟩ := txcell hR6 0 _ rfl
      obtain ⟨e1, -⟩ := txcell hR6 1 _ rfl
      obtain ⟨e2, -⟩ := txcell hR6 2 _ rfl
      have hs6 : w5.heap.size + 1 ≤ (w5.alloc (.cells #[.slice qo qn qk, .slice qc qm qd, .int .i64 q.k] 58)).heap.size := by simp
      have C := mkHid (combine_at 43 (fun a b => a + b) opc_add p q nmB no co qo qc n c m d qn qk qm qd _ (hRd.below hB46) (hRq.below hB6) (HG.out p hl) (HGu.out q hm))
      clear HE HEu HG HGu HN
      go_wp2_with (fail)
      refine C.out.mono ?_
      rintro e w7 ⟨v5, rfl, hL5, hB7⟩
      have HF7 := HF6.keep hB7
      obtain ⟨xo, xn, xc, yo, yn, yc, k, e, rfl⟩ := hL5.b.shape
      have hL9 := mkHid ((hL5.b.mono (B' := w.heap.size + 2) (by omega)).st3 (X := w.heap.size + 1) (by omega) (.slice xo xn xc) (.slice yo yn yc) (.int .i64 k))
      have hR9 := rb_three HF7.res rfl (.slice xo xn xc) (.slice yo yn yc) (.int .i64 k)
      have hB9 := mkHid (bel_st3 (B := w.heap.size + 1) HF7.bel (by omega) (.slice xo xn xc) (.slice yo yn yc) (.int .i64 k))
      obtain ⟨r0, s0⟩ := txcell HF7.res 0 _ rfl
      obtain ⟨r1, s1⟩ := txcell HF7.res 1 _ rfl
      obtain ⟨r2, s2⟩ := txcell HF7.res 2 _ rfl
      clear C hL5 hRd hRq
      go_wp2_with (fail)
      obtain ⟨k0, -⟩ := txcell hR9 0 _ rfl
      obtain ⟨k1, -⟩ := txcell hR9 1 _ rfl
      obtain ⟨k2, -⟩ := txcell hR9 2 _ rfl
      exact bodyPost_ret (v := .tuple #[.agg #[.slice xo xn xc, .slice yo yn yc, .int .i64 k], .int .i64 e]) (by simp [results, Try.results24, go_sem, k0, k1, k2]) rfl ⟨_, rfl, by rw [HR.out]; exact hL9.out.mono (by omega), hB9.out⟩
set_option maxRecDepth 100000 in
set_option maxHeartbeats 4000000 in
theorem linear_two4 (t u : Tm) (ht : t.all (wellT nmB) = true) (hu : u.all (wellT nmB) = true) (ih : LinC t) (ihu : LinC u) : LinC (.mk 4 0 emp [t, u]) := by
  rintro W v w ⟨c0, c1, c2, c3, rfl, hr⟩ hW hsz
  rw [RdT] at hr
  obtain ⟨rfl, rfl, rfl, -, ao, cap, rfl, hcap, hcm, hk⟩ := hr
  obtain ⟨g, of, d0, d1, d2, d3, f0, f1, f2, f3, rfl, q0, q1, q2, q3, hrt, t0, t1, t2, t3, hru, hg⟩ := two_kids hk
  have hst : t.size + u.size ≤ 499 := by have := hsz; simp only [Tm.size, Tm.sizeL] at this; omega
  have hcap' : 2 ≤ cap := hcap
  have HG : Hid (∀ p, lin t = .ok p → p.good nmB 500) := fun p hp => (lin_good nmB t ht p hp).mono (by omega)
  have HE : Hid (∀ e, lin t = .er e → e = 90 ∨ e = 91) := lin_er nmB t ht
  have HGu : Hid (∀ p, lin u = .ok p → p.good nmB 500) := fun p hp => (lin_good nmB u hu p hp).mono (by omega)
  have HEu : Hid (∀ e, lin u = .er e → e = 90 ∨ e = 91) := lin_er nmB u hu
  have HN : Hid _ := lin_two (o := 4) (by decide) 0 emp t u
  have HF := mkHid (fr2_new w (.int .i64 4) (.int .i64 0) (.string emp) (.slice (some ⟨g, of, none⟩) 2 cap))
  generalize hw2 : (w.alloc (.cells #[.int .i64 4, .int .i64 0, .string emp, .slice (some ⟨g, of, none⟩) 2 cap] 35)).alloc (.cells #[.slice none 0 0, .slice none 0 0, .int .i64 0] 58) = w2 at HF
  have hB2 := HF.out.bel
  have hs2 := HF.out.size
  have hW2 : Below W.heap.size W w2 := hW.trans (hB2.mono hW.size)
  have C := mkHid (ih W (.agg #[d0, d1, d2, d3]) w2 ⟨_, _, _, _, rfl, hrt⟩ hW2 (by omega))
  have CU : Hid (∀ w', Below W.heap.size W w' → Calls Try.prog 24 #[.agg #[f0, f1, f2, f3]] w' fun e w'' => ∃ v', e = .returned v' ∧ LrB w'.heap.size w'' (lin u) v' ∧ Below w'.heap.size w' w'') := fun w' h => ihu W (.agg #[f0, f1, f2, f3]) w' ⟨_, _, _, _, rfl, hru⟩ h (by omega)
  have p0 : w2.cell? ⟨g, of, none⟩ = some d0 := (hW2.cell (p := ⟨g, of, none⟩) hg).trans q0
  have p1 : w2.cell? ⟨g, of + 1, none⟩ = some d1 := (hW2.cell (p := ⟨g, of + 1, none⟩) hg).trans q1
  have p2 : w2.cell? ⟨g, of + 2, none⟩ = some d2 := (hW2.cell (p := ⟨g, of + 2, none⟩) hg).trans q2
  have p3 : w2.cell? ⟨g, of + 3, none⟩ = some d3 := (hW2.cell (p := ⟨g, of + 3, none⟩) hg).trans q3
  rw [← hw2] at p0 p1 p2 p3
  have HW : Hid ((w.alloc (.cells #[.int .i64 4, .int .i64 0, .string emp, .slice (some ⟨g, of, none⟩) 2 cap] 35)).alloc (.cells #[.slice none 0 0, .slice none 0 0, .int .i64 0] 58) = w2) := hw2
  clear hw2 ih ihu q0 q1 q2 q3 hrt hru hk hB2
  go_enter Try.func24, Try.ntmps24
  go_wp2_with (fail)
  have eW := HW.out
  rw [eW]
  clear eW HW p0 p1 p2 p3
  refine C.out.mono ?_
  rintro e w3 ⟨v', rfl, hL, hB3⟩
  have HF3 := HF.out.keep hB3
  have hs3 := HF3.size
  have hW3 : Below W.heap.size W w3 := hW2.trans (hB3.mono hW2.size)
  clear C hW2
  cases hl : lin t with
  | er e =>
    rw [hl] at hL
    have hv : v' = .tuple #[.agg zS, .int .i64 e] := hL
    subst hv
    have HR : Hid (lin (.mk 4 0 emp [t, u]) = .er e) := by have := HN.out; rw [hl] at this; exact this
    rcases HE.out e hl with rfl | rfl
    · have HF4 := HF3.keep (bal w3 (.cells #[.slice none 0 0, .slice none 0 0, .int .i64 0] 58))
      have hR9 := rb_three HF4.res rfl (.slice none 0 0) (.slice none 0 0) (.int .i64 0)
      have hB9 := mkHid (bel_st3 (B := w.heap.size + 1) HF4.bel (by omega) (.slice none 0 0) (.slice none 0 0) (.int .i64 0))
      obtain ⟨r0, s0⟩ := txcell HF4.res 0 _ rfl
      obtain ⟨r1, s1⟩ := txcell HF4.res 1 _ rfl
      obtain ⟨r2, s2⟩ := txcell HF4.res 2 _ rfl
      clear HG HE HN hL CU HGu HEu t0 t1 t2 t3
      go_wp2_with (fail)
      obtain ⟨k0, -⟩ := txcell hR9 0 _ rfl
      obtain ⟨k1, -⟩ := txcell hR9 1 _ rfl
      obtain ⟨k2, -⟩ := txcell hR9 2 _ rfl
      exact bodyPost_ret (v := .tuple #[.agg zS, .int .i64 90]) (by simp [results, Try.results24, go_sem, k0, k1, k2]) rfl ⟨_, rfl, by rw [HR.out]; rfl, hB9.out⟩
    · have HF4 := HF3.keep (bal w3 (.cells #[.slice none 0 0, .slice none 0 0, .int .i64 0] 58))
      have hR9 := rb_three HF4.res rfl (.slice none 0 0) (.slice none 0 0) (.int .i64 0)
      have hB9 := mkHid (bel_st3 (B := w.heap.size + 1) HF4.bel (by omega) (.slice none 0 0) (.slice none 0 0) (.int .i64 0))
      obtain ⟨r0, s0⟩ := txcell HF4.res 0 _ rfl
      obtain ⟨r1, s1⟩ := txcell HF4.res 1 _ rfl
      obtain ⟨r2, s2⟩ := txcell HF4.res 2 _ rfl
      clear HG HE HN hL CU HGu HEu t0 t1 t2 t3
      go_wp2_with (fail)
      obtain ⟨k0, -⟩ := txcell hR9 0 _ rfl
      obtain ⟨k1, -⟩ := txcell hR9 1 _ rfl
      obtain ⟨k2, -⟩ := txcell hR9 2 _ rfl
      exact bodyPost_ret (v := .tuple #[.agg zS, .int .i64 91]) (by simp [results, Try.results24, go_sem, k0, k1, k2]) rfl ⟨_, rfl, by rw [HR.out]; rfl, hB9.out⟩
  | ok p =>
    rw [hl] at hL
    obtain ⟨no, co, n, c, m, d, rfl, hRd, hno, hco⟩ := hL
    have hB4 := bal w3 (.cells #[.slice no n c, .slice co m d, .int .i64 p.k] 58)
    have hR4 := rb_new w3 #[.slice no n c, .slice co m d, .int .i64 p.k] 58
    have HF4 := HF3.keep hB4
    have hW4 : Below W.heap.size W (w3.alloc (.cells #[.slice no n c, .slice co m d, .int .i64 p.k] 58)) := hW3.trans (hB4.mono hW3.size)
    obtain ⟨b0, -⟩ := txcell HF4.box 0 _ rfl
    obtain ⟨b3, -⟩ := txcell HF4.box 3 _ rfl
    have p0 : (w3.alloc (.cells #[.slice no n c, .slice co m d, .int .i64 p.k] 58)).cell? ⟨g, of + 4, none⟩ = some f0 := (hW4.cell (p := ⟨g, of + 4, none⟩) hg).trans t0
    have p1 : (w3.alloc (.cells #[.slice no n c, .slice co m d, .int .i64 p.k] 58)).cell? ⟨g, of + 5, none⟩ = some f1 := (hW4.cell (p := ⟨g, of + 5, none⟩) hg).trans t1
    have p2 : (w3.alloc (.cells #[.slice no n c, .slice co m d, .int .i64 p.k] 58)).cell? ⟨g, of + 6, none⟩ = some f2 := (hW4.cell (p := ⟨g, of + 6, none⟩) hg).trans t2
    have p3 : (w3.alloc (.cells #[.slice no n c, .slice co m d, .int .i64 p.k] 58)).cell? ⟨g, of + 7, none⟩ = some f3 := (hW4.cell (p := ⟨g, of + 7, none⟩) hg).trans t3
    have hs4 : w3.heap.size + 1 ≤ (w3.alloc (.cells #[.slice no n c, .slice co m d, .int .i64 p.k] 58)).heap.size := by simp
    clear t0 t1 t2 t3
    go_wp2_with (fail)
    generalize w3.alloc (.cells #[.slice no n c, .slice co m d, .int .i64 p.k] 58) = w4 at hB4 hR4 HF4 hW4 hs4 ⊢
    clear b0 b3 p0 p1 p2 p3
    refine (CU.out w4 hW4).mono ?_
    rintro e w5 ⟨v', rfl, hL2, hB5⟩
    have HF5 := HF4.keep hB5
    have hR5 := hR4.keep hB5
    have hs5 : w.heap.size + 2 ≤ w5.heap.size := HF5.size
    have hs5' : w4.heap.size ≤ w5.heap.size := hB5.size
    clear CU
    cases hm : lin u with
    | er e =>
      rw [hm] at hL2
      have hv : v' = .tuple #[.agg zS, .int .i64 e] := hL2
      subst hv
      have HR : Hid (lin (.mk 4 0 emp [t, u]) = .er e) := by have := HN.out; rw [hl, hm] at this; exact this
      rcases HEu.out e hm with rfl | rfl
      · have HF4 := HF5.keep (bal w5 (.cells #[.slice none 0 0, .slice none 0 0, .int .i64 0] 58))
        have hR9 := rb_three HF4.res rfl (.slice none 0 0) (.slice none 0 0) (.int .i64 0)
        have hB9 := mkHid (bel_st3 (B := w.heap.size + 1) HF4.bel (by omega) (.slice none 0 0) (.slice none 0 0) (.int .i64 0))
        obtain ⟨r0, s0⟩ := txcell HF4.res 0 _ rfl
        obtain ⟨r1, s1⟩ := txcell HF4.res 1 _ rfl
        obtain ⟨r2, s2⟩ := txcell HF4.res 2 _ rfl
        clear HG HE HN hL2 HGu HEu hRd
        go_wp2_with (fail)
        obtain ⟨k0, -⟩ := txcell hR9 0 _ rfl
        obtain ⟨k1, -⟩ := txcell hR9 1 _ rfl
        obtain ⟨k2, -⟩ := txcell hR9 2 _ rfl
        exact bodyPost_ret (v := .tuple #[.agg zS, .int .i64 90]) (by simp [results, Try.results24, go_sem, k0, k1, k2]) rfl ⟨_, rfl, by rw [HR.out]; rfl, hB9.out⟩
      · have HF4 := HF5.keep (bal w5 (.cells #[.slice none 0 0, .slice none 0 0, .int .i64 0] 58))
        have hR9 := rb_three HF4.res rfl (.slice none 0 0) (.slice none 0 0) (.int .i64 0)
        have hB9 := mkHid (bel_st3 (B := w.heap.size + 1) HF4.bel (by omega) (.slice none 0 0) (.slice none 0 0) (.int .i64 0))
        obtain ⟨r0, s0⟩ := txcell HF4.res 0 _ rfl
        obtain ⟨r1, s1⟩ := txcell HF4.res 1 _ rfl
        obtain ⟨r2, s2⟩ := txcell HF4.res 2 _ rfl
        clear HG HE HN hL2 HGu HEu hRd
        go_wp2_with (fail)
        obtain ⟨k0, -⟩ := txcell hR9 0 _ rfl
        obtain ⟨k1, -⟩ := txcell hR9 1 _ rfl
        obtain ⟨k2, -⟩ := txcell hR9 2 _ rfl
        exact bodyPost_ret (v := .tuple #[.agg zS, .int .i64 91]) (by simp [results, Try.results24, go_sem, k0, k1, k2]) rfl ⟨_, rfl, by rw [HR.out]; rfl, hB9.out⟩
    | ok q =>
      rw [hm] at hL2
      obtain ⟨qo, qc, qn, qk, qm, qd, rfl, hRq, hqo, hqc⟩ := hL2
      have HR : Hid (lin (.mk 4 0 emp [t, u]) = mkS (cmb (fun a b => a - b) p q)) := HN.out.trans (by rw [hl, hm]; exact (if_neg (by decide)).trans (if_pos trivial))
      have hB6 := bal w5 (.cells #[.slice qo qn qk, .slice qc qm qd, .int .i64 q.k] 58)
      have hB46 := bt2 hB4 (bt2 hB5 hB6)
      have HF6 := HF5.keep hB6
      have hR6 := hR5.keep hB6
      obtain ⟨b0, -⟩ := txcell HF6.box 0 _ rfl
      obtain ⟨e0, -⟩ := txcell hR6 0 _ rfl
      obtain ⟨e1, -⟩ := txcell hR6 1 _ rfl
      obtain ⟨e2, -⟩ := txcell hR6 2 _ rfl
      have hs6 : w5.heap.size + 1 ≤ (w5.alloc (.cells #[.slice qo qn qk, .slice qc qm qd, .int .i64 q.k] 58)).heap.size := by simp
      have C := mkHid (combine_at 42 (fun a b => a - b) opc_sub p q nmB no co qo qc n c m d qn qk qm qd _ (hRd.below hB46) (hRq.below hB6) (HG.out p hl) (HGu.out q hm))
      clear HE HEu HG HGu HN
      go_wp2_with (fail)
      refine C.out.mono ?_
      rintro e w7 ⟨v5, rfl, hL5, hB7⟩
      have HF7 := HF6.keep hB7
      obtain ⟨xo, xn, xc, yo, yn, yc, k, e, rfl⟩ := hL5.b.shape
      have hL9 := mkHid ((hL5.b.mono (B' := w.heap.size + 2) (by omega)).st3 (X := w.heap.size + 1) (by omega) (.slice xo xn xc) (.slice yo yn yc) (.int .i64 k))
      have hR9 := rb_three HF7.res rfl (.slice xo xn xc) (.slice yo yn yc) (.int .i64 k)
      have hB9 := mkHid (bel_st3 (B := w.heap.size + 1) HF7.bel (by omega) (.slice xo xn xc) (.slice yo yn yc) (.int .i64 k))
      obtain ⟨r0, s0⟩ := txcell HF7.res 0 _ rfl
      obtain ⟨r1, s1⟩ := txcell HF7.res 1 _ rfl
      obtain ⟨r2, s2⟩ := txcell HF7.res 2 _ rfl
      clear C hL5 hRd hRq
      go_wp2_with (fail)
      obtain ⟨k0, -⟩ := txcell hR9 0 _ rfl
      obtain ⟨k1, -⟩ := txcell hR9 1 _ rfl
      obtain ⟨k2, -⟩ := txcell hR9 2 _ rfl
      exact bodyPost_ret (v := .tuple #[.agg #[.slice xo xn xc, .slice yo yn yc, .int .i64 k], .int .i64 e]) (by simp [results, Try.results24, go_sem, k0, k1, k2]) rfl ⟨_, rfl, by rw [HR.out]; exact hL9.out.mono (by omega), hB9.out⟩
set_option maxRecDepth 100000 in
set_option maxHeartbeats 4000000 in
theorem linear_two5 (t u : Tm) (ht : t.all (wellT nmB) = true) (hu : u.all (wellT nmB) = true) (ih : LinC t) (ihu : LinC u) : LinC (.mk 5 0 emp [t, u]) := by
  rintro W v w ⟨c0, c1, c2, c3, rfl, hr⟩ hW hsz
  rw [RdT] at hr
  obtain ⟨rfl, rfl, rfl, -, ao, cap, rfl, hcap, hcm, hk⟩ := hr
  obtain ⟨g, of, d0, d1, d2, d3, f0, f1, f2, f3, rfl, q0, q1, q2, q3, hrt, t0, t1, t2, t3, hru, hg⟩ := two_kids hk
  have hst : t.size + u.size ≤ 499 := by have := hsz; simp only [Tm.size, Tm.sizeL] at this; omega
  have hcap' : 2 ≤ cap := hcap
  have HG : Hid (∀ p, lin t = .ok p → p.good nmB 500) := fun p hp => (lin_good nmB t ht p hp).mono (by omega)
  have HE : Hid (∀ e, lin t = .er e → e = 90 ∨ e = 91) := lin_er nmB t ht
  have HGu : Hid (∀ p, lin u = .ok p → p.good nmB 500) := fun p hp => (lin_good nmB u hu p hp).mono (by omega)
  have HEu : Hid (∀ e, lin u = .er e → e = 90 ∨ e = 91) := lin_er nmB u hu
  have HN : Hid _ := lin_two (o := 5) (by decide) 0 emp t u
  have HF := mkHid (fr2_new w (.int .i64 5) (.int .i64 0) (.string emp) (.slice (some ⟨g, of, none⟩) 2 cap))
  generalize hw2 : (w.alloc (.cells #[.int .i64 5, .int .i64 0, .string emp, .slice (some ⟨g, of, none⟩) 2 cap] 35)).alloc (.cells #[.slice none 0 0, .slice none 0 0, .int .i64 0] 58) = w2 at HF
  have hB2 := HF.out.bel
  have hs2 := HF.out.size
  have hW2 : Below W.heap.size W w2 := hW.trans (hB2.mono hW.size)
  have C := mkHid (ih W (.agg #[d0, d1, d2, d3]) w2 ⟨_, _, _, _, rfl, hrt⟩ hW2 (by omega))
  have CU : Hid (∀ w', Below W.heap.size W w' → Calls Try.prog 24 #[.agg #[f0, f1, f2, f3]] w' fun e w'' => ∃ v', e = .returned v' ∧ LrB w'.heap.size w'' (lin u) v' ∧ Below w'.heap.size w' w'') := fun w' h => ihu W (.agg #[f0, f1, f2, f3]) w' ⟨_, _, _, _, rfl, hru⟩ h (by omega)
  have p0 : w2.cell? ⟨g, of, none⟩ = some d0 := (hW2.cell (p := ⟨g, of, none⟩) hg).trans q0
  have p1 : w2.cell? ⟨g, of + 1, none⟩ = some d1 := (hW2.cell (p := ⟨g, of + 1, none⟩) hg).trans q1
  have p2 : w2.cell? ⟨g, of + 2, none⟩ = some d2 := (hW2.cell (p := ⟨g, of + 2, none⟩) hg).trans q2
  have p3 : w2.cell? ⟨g, of + 3, none⟩ = some d3 := (hW2.cell (p := ⟨g, of + 3, none⟩) hg).trans q3
  rw [← hw2] at p0 p1 p2 p3
  have HW : Hid ((w.alloc (.cells #[.int .i64 5, .int .i64 0, .string emp, .slice (some ⟨g, of, none⟩) 2 cap] 35)).alloc (.cells #[.slice none 0 0, .slice none 0 0, .int .i64 0] 58) = w2) := hw2
  clear hw2 ih ihu q0 q1 q2 q3 hrt hru hk hB2
  go_enter Try.func24, Try.ntmps24
  go_wp2_with (fail)
  have eW := HW.out
  rw [eW]
  clear eW HW p0 p1 p2 p3
  refine C.out.mono ?_
  rintro e w3 ⟨v', rfl, hL, hB3⟩
  have HF3 := HF.out.keep hB3
  have hs3 := HF3.size
  have hW3 : Below W.heap.size W w3 := hW2.trans (hB3.mono hW2.size)
  clear C hW2
  cases hl : lin t with
  | er e =>
    rw [hl] at hL
    have hv : v' = .tuple #[.agg zS, .int .i64 e] := hL
    subst hv
    have HR : Hid (lin (.mk 5 0 emp [t, u]) = .er e) := by have := HN.out; rw [hl] at this; exact this
    rcases HE.out e hl with rfl | rfl
    · have HF4 := HF3.keep (bal w3 (.cells #[.slice none 0 0, .slice none 0 0, .int .i64 0] 58))
      have hR9 := rb_three HF4.res rfl (.slice none 0 0) (.slice none 0 0) (.int .i64 0)
      have hB9 := mkHid (bel_st3 (B := w.heap.size + 1) HF4.bel (by omega) (.slice none 0 0) (.slice none 0 0) (.int .i64 0))
      obtain ⟨r0, s0⟩ := txcell HF4.res 0 _ rfl
      obtain ⟨r1, s1⟩ := txcell HF4.res 1 _ rfl
      obtain ⟨r2, s2⟩ := txcell HF4.res 2 _ rfl
      clear HG HE HN hL CU HGu HEu t0 t1 t2 t3
      go_wp2_with (fail)
      obtain ⟨k0, -⟩ := txcell hR9 0 _ rfl
      obtain ⟨k1, -⟩ := txcell hR9 1 _ rfl
      obtain ⟨k2, -⟩ := txcell hR9 2 _ rfl
      exact bodyPost_ret (v := .tuple #[.agg zS, .int .i64 90]) (by simp [results, Try.results24, go_sem, k0, k1, k2]) rfl ⟨_, rfl, by rw [HR.out]; rfl, hB9.out⟩
    · have HF4 := HF3.keep (bal w3 (.cells #[.slice none 0 0, .slice none 0 0, .int .i64 0] 58))
      have hR9 := rb_three HF4.res rfl (.slice none 0 0) (.slice none 0 0) (.int .i64 0)
      have hB9 := mkHid (bel_st3 (B := w.heap.size + 1) HF4.bel (by omega) (.slice none 0 0) (.slice none 0 0) (.int .i64 0))
      obtain ⟨r0, s0⟩ := txcell HF4.res 0 _ rfl
      obtain ⟨r1, s1⟩ := txcell HF4.res 1 _ rfl
      obtain ⟨r2, s2⟩ := txcell HF4.res 2 _ rfl
      clear HG HE HN hL CU HGu HEu t0 t1 t2 t3
      go_wp2_with (fail)
      obtain ⟨k0, -⟩ := txcell hR9 0 _ rfl
      obtain ⟨k1, -⟩ := txcell hR9 1 _ rfl
      obtain ⟨k2, -⟩ := txcell hR9 2 _ rfl
      exact bodyPost_ret (v := .tuple #[.agg zS, .int .i64 91]) (by simp [results, Try.results24, go_sem, k0, k1, k2]) rfl ⟨_, rfl, by rw [HR.out]; rfl, hB9.out⟩
  | ok p =>
    rw [hl] at hL
    obtain ⟨no, co, n, c, m, d, rfl, hRd, hno, hco⟩ := hL
    have hB4 := bal w3 (.cells #[.slice no n c, .slice co m d, .int .i64 p.k] 58)
    have hR4 := rb_new w3 #[.slice no n c, .slice co m d, .int .i64 p.k] 58
    have HF4 := HF3.keep hB4
    have hW4 : Below W.heap.size W (w3.alloc (.cells #[.slice no n c, .slice co m d, .int .i64 p.k] 58)) := hW3.trans (hB4.mono hW3.size)
    obtain ⟨b0, -⟩ := txcell HF4.box 0 _ rfl
    obtain ⟨b3, -⟩ := txcell HF4.box 3 _ rfl
    have p0 : (w3.alloc (.cells #[.slice no n c, .slice co m d, .int .i64 p.k] 58)).cell? ⟨g, of + 4, none⟩ = some f0 := (hW4.cell (p := ⟨g, of + 4, none⟩) hg).trans t0
    have p1 : (w3.alloc (.cells #[.slice no n c, .slice co m d, .int .i64 p.k] 58)).cell? ⟨g, of + 5, none⟩ = some f1 := (hW4.cell (p := ⟨g, of + 5, none⟩) hg).trans t1
    have p2 : (w3.alloc (.cells #[.slice no n c, .slice co m d, .int .i64 p.k] 58)).cell? ⟨g, of + 6, none⟩ = some f2 := (hW4.cell (p := ⟨g, of + 6, none⟩) hg).trans t2
    have p3 : (w3.alloc (.cells #[.slice no n c, .slice co m d, .int .i64 p.k] 58)).cell? ⟨g, of + 7, none⟩ = some f3 := (hW4.cell (p := ⟨g, of + 7, none⟩) hg).trans t3
    have hs4 : w3.heap.size + 1 ≤ (w3.alloc (.cells #[.slice no n c, .slice co m d, .int .i64 p.k] 58)).heap.size := by simp
    clear t0 t1 t2 t3
    go_wp2_with (fail)
    generalize w3.alloc (.cells #[.slice no n c, .slice co m d, .int .i64 p.k] 58) = w4 at hB4 hR4 HF4 hW4 hs4 ⊢
    clear b0 b3 p0 p1 p2 p3
    refine (CU.out w4 hW4).mono ?_
    rintro e w5 ⟨v', rfl, hL2, hB5⟩
    have HF5 := HF4.keep hB5
    have hR5 := hR4.keep hB5
    have hs5 : w.heap.size + 2 ≤ w5.heap.size := HF5.size
    have hs5' : w4.heap.size ≤ w5.heap.size := hB5.size
    clear CU
    cases hm : lin u with
    | er e =>
      rw [hm] at hL2
      have hv : v' = .tuple #[.agg zS, .int .i64 e] := hL2
      subst hv
      have HR : Hid (lin (.mk 5 0 emp [t, u]) = .er e) := by have := HN.out; rw [hl, hm] at this; exact this
      rcases HEu.out e hm with rfl | rfl
      · have HF4 := HF5.keep (bal w5 (.cells #[.slice none 0 0, .slice none 0 0, .int .i64 0] 58))
        have hR9 := rb_three HF4.res rfl (.slice none 0 0) (.slice none 0 0) (.int .i64 0)
        have hB9 := mkHid (bel_st3 (B := w.heap.size + 1) HF4.bel (by omega) (.slice none 0 0) (.slice none 0 0) (.int .i64 0))
        obtain ⟨r0, s0⟩ := txcell HF4.res 0 _ rfl
        obtain ⟨r1, s1⟩ := txcell HF4.res 1 _ rfl
        obtain ⟨r2, s2⟩ := txcell HF4.res 2 _ rfl
        clear HG HE HN hL2 HGu HEu hRd
        go_wp2_with (fail)
        obtain ⟨k0, -⟩ := txcell hR9 0 _ rfl
        obtain ⟨k1, -⟩ := txcell hR9 1 _ rfl
        obtain ⟨k2, -⟩ := txcell hR9 2 _ rfl
        exact bodyPost_ret (v := .tuple #[.agg zS, .int .i64 90]) (by simp [results, Try.results24, go_sem, k0, k1, k2]) rfl ⟨_, rfl, by rw [HR.out]; rfl, hB9.out⟩
      · have HF4 := HF5.keep (bal w5 (.cells #[.slice none 0 0, .slice none 0 0, .int .i64 0] 58))
        have hR9 := rb_three HF4.res rfl (.slice none 0 0) (.slice none 0 0) (.int .i64 0)
        have hB9 := mkHid (bel_st3 (B := w.heap.size + 1) HF4.bel (by omega) (.slice none 0 0) (.slice none 0 0) (.int .i64 0))
        obtain ⟨r0, s0⟩ := txcell HF4.res 0 _ rfl
        obtain ⟨r1, s1⟩ := txcell HF4.res 1 _ rfl
        obtain ⟨r2, s2⟩ := txcell HF4.res 2 _ rfl
        clear HG HE HN hL2 HGu HEu hRd
        go_wp2_with (fail)
        obtain ⟨k0, -⟩ := txcell hR9 0 _ rfl
        obtain ⟨k1, -⟩ := txcell hR9 1 _ rfl
        obtain ⟨k2, -⟩ := txcell hR9 2 _ rfl
        exact bodyPost_ret (v := .tuple #[.agg zS, .int .i64 91]) (by simp [results, Try.results24, go_sem, k0, k1, k2]) rfl ⟨_, rfl, by rw [HR.out]; rfl, hB9.out⟩
    | ok q =>
      rw [hm] at hL2
      obtain ⟨qo, qc, qn, qk, qm, qd, rfl, hRq, hqo, hqc⟩ := hL2
      have HR : Hid (lin (.mk 5 0 emp [t, u]) = prdS p q) := HN.out.trans (by rw [hl, hm]; exact (if_neg (by decide)).trans (if_neg (by decide)))
      have hB6 := bal w5 (.cells #[.slice qo qn qk, .slice qc qm qd, .int .i64 q.k] 58)
      have hB46 := bt2 hB4 (bt2 hB5 hB6)
      have HF6 := HF5.keep hB6
      have hR6 := hR5.keep hB6
      obtain ⟨b0, -⟩ := txcell HF6.box 0 _ rfl
      obtain ⟨e0, -⟩ := txcell hR6 0 _ rfl
      obtain ⟨e1, -⟩ := txcell hR6 1 _ rfl
      obtain ⟨e2, -⟩ := txcell hR6 2 _ rfl
      have hs6 : w5.heap.size + 1 ≤ (w5.alloc (.cells #[.slice qo qn qk, .slice qc qm qd, .int .i64 q.k] 58)).heap.size := by simp
      have C := mkHid (product_at p q nmB (w.heap.size + 2) no co qo qc n c m d qn qk qm qd _ (hRd.below hB46) (hRq.below hB6) (HG.out p hl) (HGu.out q hm) (hno.mono (by omega)) (hqo.mono (by omega)) (by omega))
      clear HE HEu HG HGu HN
      go_wp2_with (fail)
      refine C.out.mono ?_
      rintro e w7 ⟨v5, rfl, hL5, hB7⟩
      have HF7 := HF6.keep hB7
      obtain ⟨xo, xn, xc, yo, yn, yc, k, e, rfl⟩ := hL5.shape
      have hL9 := mkHid ((hL5.mono (B' := w.heap.size + 2) (by omega)).st3 (X := w.heap.size + 1) (by omega) (.slice xo xn xc) (.slice yo yn yc) (.int .i64 k))
      have hR9 := rb_three HF7.res rfl (.slice xo xn xc) (.slice yo yn yc) (.int .i64 k)
      have hB9 := mkHid (bel_st3 (B := w.heap.size + 1) HF7.bel (by omega) (.slice xo xn xc) (.slice yo yn yc) (.int .i64 k))
      obtain ⟨r0, s0⟩ := txcell HF7.res 0 _ rfl
      obtain ⟨r1, s1⟩ := txcell HF7.res 1 _ rfl
      obtain ⟨r2, s2⟩ := txcell HF7.res 2 _ rfl
      clear C hL5 hRd hRq
      go_wp2_with (fail)
      obtain ⟨k0, -⟩ := txcell hR9 0 _ rfl
      obtain ⟨k1, -⟩ := txcell hR9 1 _ rfl
      obtain ⟨k2, -⟩ := txcell hR9 2 _ rfl
      exact bodyPost_ret (v := .tuple #[.agg #[.slice xo xn xc, .slice yo yn yc, .int .i64 k], .int .i64 e]) (by simp [results, Try.results24, go_sem, k0, k1, k2]) rfl ⟨_, rfl, by rw [HR.out]; exact hL9.out.mono (by omega), hB9.out⟩
theorem linear_at : ∀ t, t.all (wellT nmB) = true → LinC t := wt_ind linear_num linear_name linear_neg (fun o t u ho ht hu iht ihu => by
  rcases ho with rfl | rfl | rfl
  · exact linear_two3 t u ht hu iht ihu
  · exact linear_two4 t u ht hu iht ihu
  · exact linear_two5 t u ht hu iht ihu)
end Go.Proofs.Ytiapkblebbcfbaa.Gl
