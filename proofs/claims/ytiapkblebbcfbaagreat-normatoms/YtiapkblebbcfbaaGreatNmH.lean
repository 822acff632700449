/- The program's linear. -/
import Derived.Test.YtiapkblebbcfbaaGreatNmF
import Derived.Test.YtiapkblebbcfbaaGreatNmD
import Derived.Test.YtiapkblebbcfbaaGreatLyS
namespace Go.Proofs.YtiapkblebbcfbaaGreat.Gl
open Go.RowKit
set_option linter.unusedVariables false
set_option linter.unusedSimpArgs false

theorem name_small {x : ByteArray} (h : IsName x) : x.size ≤ 4096 := by
  obtain ⟨⟨n, hc, _, hn, _⟩, _⟩ := h
  have key : ∀ k, k ≤ n → pos x k ≤ 4 * k := by
    intro k
    induction k with
    | zero => intro _; exact Nat.le_refl _
    | succ k ih =>
      intro hk
      have := (rd_bd x (pos x k) (hc.2 k (by omega))).2.2
      have := ih (by omega)
      rw [pos_succ]; omega
  have := key n (Nat.le_refl _)
  have h1 := hc.1
  omega
theorem nclone_at (t : ByteArray) (w : World) (ht : t.size ≤ 4096) :
    Calls Tryz.prog 34 #[.string t] w fun e w' => e = .returned (.string t) ∧ Below w.heap.size w w' := by
  have K : Hid (∀ w, Calls Tryz.prog 61 #[.string t] w fun e w' => e = .returned (.string t) ∧ Below w.heap.size w w') := fun w => clone_lib t w (by omega)
  go_enter Tryz.func34, Tryz.ntmps34
  go_wp2_with (go_at_call 61; refine (K.out _).mono ?_; rintro e w2 ⟨rfl, hB2⟩)
  go_ret
  exact ⟨rfl, hB2⟩
theorem lin_er (nm : ByteArray → Bool) : ∀ t, t.all (wellT nm) = true → ∀ e, lin t = .er e → e = 90 ∨ e = 91 := by
  have mk : ∀ s e, mkS s = .er e → e = 90 ∨ e = 91 := fun s e h => by
    unfold mkS at h
    split at h
    · cases h
    · cases h; exact .inr rfl
  refine wt_ind ?_ ?_ ?_ ?_
  · intro n hn e he
    rw [lin_num] at he
    exact mk _ _ he
  · intro x hx e he
    rw [lin_name] at he
    cases he
  · intro t ht ih e he
    rw [lin_neg] at he
    cases hl : lin t with
    | er f => rw [hl] at he; cases he; exact ih _ hl
    | ok p => rw [hl] at he; exact mk _ _ he
  · intro o t u ho ht hu iht ihu e he
    rw [lin_two ho] at he
    cases hl : lin t with
    | er f => rw [hl] at he; cases he; exact iht _ hl
    | ok p =>
      cases hm : lin u with
      | er f => rw [hl, hm] at he; cases he; exact ihu _ hm
      | ok q =>
        rw [hl, hm] at he
        dsimp only at he
        split at he
        · exact mk _ _ he
        · split at he
          · exact mk _ _ he
          · unfold prdS at he
            split at he
            · exact mk _ _ he
            · split at he
              · exact mk _ _ he
              · cases he; exact .inl rfl
theorem rds_nil (w : World) : RdS w none 0 0 [] := ⟨rfl, Nat.le_refl _, by omega, fun _ => rfl, fun i hi => by omega⟩
theorem rdsm_nil (w : World) : RdSm w nilS none none 0 0 0 0 := ⟨rds_nil w, rdz_nil w⟩
/-- what linear answers -/
def LinC (t : Tm) : Prop := ∀ (W : World) (v : Value) (w : World), TmV W t v → Below W.heap.size W w → t.size ≤ 500 →
  Calls Tryz.prog 15 #[v] w fun e w' => ∃ v', e = .returned v' ∧ LrB w.heap.size w' (lin t) v' ∧ Below w.heap.size w w'
/-- a term's box and the result's -/
structure Fr2 (w w2 : World) (c0 c1 c2 c3 : Value) : Prop where
  box : Rb w2 w.heap.size #[c0, c1, c2, c3] 25
  res : Rb w2 (w.heap.size + 1) zS 54
  bel : Below w.heap.size w w2
  size : w.heap.size + 2 ≤ w2.heap.size
theorem Fr2.keep {w w2 w3 : World} {c0 c1 c2 c3 : Value} (h : Fr2 w w2 c0 c1 c2 c3) (hb : Below w2.heap.size w2 w3) : Fr2 w w3 c0 c1 c2 c3 :=
  ⟨h.box.keep hb, h.res.keep hb, bt2 h.bel hb, Nat.le_trans h.size hb.size⟩
theorem fr2_new (w : World) (c0 c1 c2 c3 : Value) : Fr2 w ((w.alloc (.cells #[c0, c1, c2, c3] 25)).alloc (.cells #[.slice none 0 0, .slice none 0 0, .int .i64 0] 54)) c0 c1 c2 c3 := by
  have h1 := rb_new w #[c0, c1, c2, c3] 25
  have h2 := rb_new (w.alloc (.cells #[c0, c1, c2, c3] 25)) zS 54
  rw [show (w.alloc (.cells #[c0, c1, c2, c3] 25)).heap.size = w.heap.size + 1 from by simp] at h2
  exact ⟨h1.keep (bal _ _), h2, bt2 (bal w _) (bal _ _), by simp⟩
theorem two_kids {W : World} {t u : Tm} {ao : Option Addr} (h : RdTL W [t, u] ao 0) : ∃ g of c0 c1 c2 c3 d0 d1 d2 d3, ao = some ⟨g, of, none⟩ ∧ W.cell? ⟨g, of, none⟩ = some c0 ∧ W.cell? ⟨g, of + 1, none⟩ = some c1 ∧ W.cell? ⟨g, of + 2, none⟩ = some c2 ∧ W.cell? ⟨g, of + 3, none⟩ = some c3 ∧ RdT W t c0 c1 c2 c3 ∧
    W.cell? ⟨g, of + 4, none⟩ = some d0 ∧ W.cell? ⟨g, of + 5, none⟩ = some d1 ∧ W.cell? ⟨g, of + 6, none⟩ = some d2 ∧ W.cell? ⟨g, of + 7, none⟩ = some d3 ∧ RdT W u d0 d1 d2 d3 ∧ g < W.heap.size := by
  rw [RdTL, RdTL] at h
  obtain ⟨⟨g, of, c0, c1, c2, c3, rfl, hg, h0, h1, h2, h3, hr⟩, ⟨g', of', d0, d1, d2, d3, e, hg', k0, k1, k2, k3, kr⟩, -⟩ := h
  cases e
  exact ⟨g, of, c0, c1, c2, c3, d0, d1, d2, d3, rfl, h0, h1, h2, h3, hr, k0, k1, k2, k3, kr, hg⟩
theorem one_kid {W : World} {t : Tm} {ao : Option Addr} (h : RdTL W [t] ao 0) : ∃ g of c0 c1 c2 c3, ao = some ⟨g, of, none⟩ ∧ W.cell? ⟨g, of, none⟩ = some c0 ∧ W.cell? ⟨g, of + 1, none⟩ = some c1 ∧ W.cell? ⟨g, of + 2, none⟩ = some c2 ∧ W.cell? ⟨g, of + 3, none⟩ = some c3 ∧ RdT W t c0 c1 c2 c3 ∧ g < W.heap.size := by
  rw [RdTL] at h
  obtain ⟨⟨g, of, c0, c1, c2, c3, rfl, hg, h0, h1, h2, h3, hr⟩, -⟩ := h
  exact ⟨g, of, c0, c1, c2, c3, rfl, h0, h1, h2, h3, hr, hg⟩
end Go.Proofs.YtiapkblebbcfbaaGreat.Gl
/- The program's linear: numbers, names, negation. -/
namespace Go.Proofs.YtiapkblebbcfbaaGreat.Gl
open Go.RowKit
set_option linter.unusedVariables false
set_option linter.unusedSimpArgs false

set_option maxRecDepth 100000 in
set_option maxHeartbeats 4000000 in
theorem linear_num (n : Int) (hn : 0 ≤ n) : LinC (.mk 0 n emp []) := by
  rintro W v w ⟨c0, c1, c2, c3, rfl, hr⟩ hW hsz
  rw [RdT] at hr
  obtain ⟨rfl, rfl, rfl, ⟨-, hi, -⟩, ao, cap, rfl, -, -, -⟩ := hr
  have HF := mkHid (fr2_new w (.int .i64 0) (.int .i64 n) (.string emp) (.slice ao 0 cap))
  have HL : Hid (lin (.mk 0 n emp []) = .ok ⟨[], [], n⟩) := by show _ = _; rw [lin_num]; exact mkS_yes (by show (([] : List Int).all in64 && in64 n) = true; rw [(in64_iff n).2 hi]; rfl)
  go_enter Tryz.func15, Tryz.ntmps15
  go_wp2_with (fail)
  refine bodyPost_ret (v := .tuple #[.agg #[.slice none 0 0, .slice none 0 0, .int .i64 n], .int .i64 0]) (by simp [results, Tryz.results15, go_sem]) rfl ⟨_, rfl, ?_, ?_⟩
  · rw [HL.out]
    exact ⟨none, none, 0, 0, 0, 0, rfl, ⟨rds_nil _, rdz_nil _⟩, newA_none _, newA_none _⟩
  · first
      | exact bt2 (bal _ _) (bal _ _)
      | exact HF.out.bel
      | exact bel_st3 HF.out.bel (by omega) _ _ _
      | exact HF.out.bel.setCell (p := ⟨w.heap.size + 1, 2, none⟩) (by show w.heap.size ≤ w.heap.size + 1; omega) _
set_option maxRecDepth 100000 in
set_option maxHeartbeats 4000000 in
theorem linear_name (x : ByteArray) (hx : nmB x = true) : LinC (.mk 1 0 x []) := by
  rintro W v w ⟨c0, c1, c2, c3, rfl, hr⟩ hW hsz
  rw [RdT] at hr
  obtain ⟨rfl, rfl, rfl, -, ao, cap, rfl, -, -, -⟩ := hr
  have hx2 := name_small ((nmB_iff x).1 hx)
  have HF := mkHid (fr2_new w (.int .i64 1) (.int .i64 0) (.string x) (.slice ao 0 cap))
  go_enter Tryz.func15, Tryz.ntmps15
  go_wp2_with (fail)
  generalize ((w.alloc (.cells #[.int .i64 1, .int .i64 0, .string x, .slice ao 0 cap] 25)).alloc (.cells #[.slice none 0 0, .slice none 0 0, .int .i64 0] 54)) = w2 at HF ⊢
  refine (nclone_at x w2 hx2).mono ?_
  rintro e w3 ⟨rfl, hB3⟩
  have HF3 := HF.out.keep hB3
  have HF4 := HF3.keep (bal w3 (.cells #[.string x] 9))
  have HF5 := HF4.keep (bal (w3.alloc (.cells #[.string x] 9)) (.cells #[.int .i64 1] 2))
  obtain ⟨r0, s0⟩ := txcell HF5.res 0 _ rfl
  obtain ⟨r1, s1⟩ := txcell HF5.res 1 _ rfl
  obtain ⟨r2, s2⟩ := txcell HF5.res 2 _ rfl
  have hs3 : w.heap.size + 2 ≤ w3.heap.size := HF3.size
  have hS := rds_built w3 [x] 1 9 w3.heap.size rfl rfl (by decide)
  have hZ := rdz_built (w3.alloc (.cells #[.string x] 9)) [1] 1 2 (w3.heap.size + 1) (by simp) rfl (by decide)
  have hS5 := mkHid (rds_st3 (X := w.heap.size + 1) (hS.below (Nat.le_refl _) (bal _ (.cells #[.int .i64 1] 2))) (fun ad e => by cases e; show w3.heap.size ≠ _; omega) (.slice (some ⟨w3.heap.size, 0, none⟩) 1 1) (.slice (some ⟨w3.heap.size + 1, 0, none⟩) 1 1) (.int .i64 0))
  have hZ5 := mkHid (rdz_st3 (X := w.heap.size + 1) hZ (fun ad e => by cases e; show w3.heap.size + 1 ≠ _; omega) (.slice (some ⟨w3.heap.size, 0, none⟩) 1 1) (.slice (some ⟨w3.heap.size + 1, 0, none⟩) 1 1) (.int .i64 0))
  have hR9 := rb_three HF5.res rfl (.slice (some ⟨w3.heap.size, 0, none⟩) 1 1) (.slice (some ⟨w3.heap.size + 1, 0, none⟩) 1 1) (.int .i64 0)
  have hB9 := mkHid (bel_st3 (B := w.heap.size + 1) HF5.bel (by omega) (.slice (some ⟨w3.heap.size, 0, none⟩) 1 1) (.slice (some ⟨w3.heap.size + 1, 0, none⟩) 1 1) (.int .i64 0))
  clear hS hZ
  go_wp2_with (fail)
  obtain ⟨k0, -⟩ := txcell hR9 0 _ rfl
  obtain ⟨k1, -⟩ := txcell hR9 1 _ rfl
  obtain ⟨k2, -⟩ := txcell hR9 2 _ rfl
  refine bodyPost_ret (v := .tuple #[.agg #[.slice (some ⟨w3.heap.size, 0, none⟩) 1 1, .slice (some ⟨w3.heap.size + 1, 0, none⟩) 1 1, .int .i64 0], .int .i64 0]) (by simp [results, Tryz.results15, go_sem, k0, k1, k2]) rfl ⟨_, rfl, ?_, hB9.out⟩
  rw [lin_name]
  exact ⟨_, _, 1, 1, 1, 1, rfl, ⟨hS5.out, hZ5.out⟩, fun ad e => by cases e; show w.heap.size ≤ w3.heap.size; omega, fun ad e => by cases e; show w.heap.size ≤ w3.heap.size + 1; omega⟩
end Go.Proofs.YtiapkblebbcfbaaGreat.Gl
