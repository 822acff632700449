/- NormValues: the walk. -/
import Derived.Test.YtiapkblebbcfbaaNmW
namespace Go.Proofs.Ytiapkblebbcfbaa.Gl
open Go.RowKit
set_option linter.unusedVariables false
set_option linter.unusedSimpArgs false

theorem bool_not (b : Bool) : b = true ∨ b = false := by cases b <;> simp
set_option maxRecDepth 100000 in
set_option maxHeartbeats 4000000 in
theorem values_walk (t : Tm) (v : Value) (ao : Option Addr) (n c : Nat) (zs : List Int) (w : World) (hv : TmV w t v) (h : RdZ w ao n c zs) :
    Calls Try.prog 4 #[v, .slice ao n c] w fun e w' => e = .returned (.bool true) ∧ Below w.heap.size w w' := by
  have FX := mkHid nfixed_at
  have LN : Hid (∀ w', Below w.heap.size w w' → Calls Try.prog 11 #[v] w' fun e w'' => ∃ v', e = .returned v' ∧ Lr4 w'' (plin t) v' ∧ Below w'.heap.size w' w'') := fun w' hb => plinear_at w t v w' hv hb
  have SM : Hid (∀ w' m, m ≤ 1000 → Below w.heap.size w w' → Calls Try.prog 12 #[.slice ao n c, .int .i64 (m : Nat)] w' fun e w'' => ∃ g L, e = .returned (.slice (some ⟨g, 0, none⟩) m m) ∧ RdZ w'' (some ⟨g, 0, none⟩) m m L ∧ Sml L ∧ Below w'.heap.size w' w'') := fun w' m hm hb => small_at ao n c m zs w' (h.below (Nat.le_refl _) hb) hm
  obtain ⟨c0, c1, c2, c3, rfl, hr⟩ := hv
  have hB1 := bal w (.cells #[c0, c1, c2, c3] 35)
  have hR1 := rb_new w #[c0, c1, c2, c3] 35
  go_enter Try.func4, Try.ntmps4
  go_wp2_with (fail)
  generalize w.alloc (.cells #[c0, c1, c2, c3] 35) = w1 at hB1 hR1 ⊢
  refine (FX.out w1).mono ?_
  rintro e w2 ⟨rfl, hB2⟩
  have hB12 := bt2 hB1 hB2
  have hR2 := hR1.keep hB2
  have r0 : w2.cell? ⟨w.heap.size, 0, none⟩ = some c0 := (txcell (vs := #[c0, c1, c2, c3]) hR2 0 _ rfl).1
  have r1 : w2.cell? ⟨w.heap.size, 1, none⟩ = some c1 := (txcell (vs := #[c0, c1, c2, c3]) hR2 1 _ rfl).1
  have r2 : w2.cell? ⟨w.heap.size, 2, none⟩ = some c2 := (txcell (vs := #[c0, c1, c2, c3]) hR2 2 _ rfl).1
  have r3 : w2.cell? ⟨w.heap.size, 3, none⟩ = some c3 := (txcell (vs := #[c0, c1, c2, c3]) hR2 3 _ rfl).1
  go_wp2_with (fail)
  refine (LN.out w2 hB12).mono ?_
  rintro e w3 ⟨v', rfl, hL, hB3⟩
  have hB13 := bt2 hB12 hB3
  have hR3 := hR2.keep hB3
  clear r0 r1 r2 r3 LN FX
  by_cases h0 : chkT nmB t = 0
  · rw [plin_ok h0] at hL
    have hwell := ((chkT_iff nmB t).1 h0).2.2
    have hszt := ((chkT_iff nmB t).1 h0).1
    cases hl : lin t with
    | er e =>
      rw [hl] at hL
      have hv' : v' = .tuple #[.slice none 0 0, .slice none 0 0, .int .i64 0, .int .i64 e] := hL
      subst hv'
      rcases lin_er nmB t hwell e hl with rfl | rfl
      all_goals
        clear hl
        go_wp2_with (fail)
        go_ret
        exact ⟨rfl, hB13⟩
    | ok s =>
      rw [hl] at hL
      obtain ⟨no, co, ln, lc, m, d, rfl, hN, hZ⟩ := hL
      have gS := lin_good nmB t hwell s hl
      have hln := gS.few
      have hmm := gS.len
      rw [hN.eqlen] at hln hmm
      rw [hZ.eqlen] at hmm
      subst hmm
      have HVAL := mkHid (fun ev => lin_val nmB ev t hwell s hl)
      have HCS := mkHid (Sm.fits.c gS.fit)
      have HRI := mkHid gS.ris
      have hq : ((m : Int) == (m : Int)) = true := by simp
      clear hl
      go_wp2_with (fail)
      refine (SM.out w3 m (by omega) hB13).mono ?_
      rintro e w4 ⟨g, L, rfl, hL4, hS4, hB4⟩
      have hB14 := bt2 hB13 hB4
      have hR4 := hR3.keep hB4
      have r0 : w4.cell? ⟨w.heap.size, 0, none⟩ = some c0 := (txcell (vs := #[c0, c1, c2, c3]) hR4 0 _ rfl).1
      have r1 : w4.cell? ⟨w.heap.size, 1, none⟩ = some c1 := (txcell (vs := #[c0, c1, c2, c3]) hR4 1 _ rfl).1
      have r2 : w4.cell? ⟨w.heap.size, 2, none⟩ = some c2 := (txcell (vs := #[c0, c1, c2, c3]) hR4 2 _ rfl).1
      have r3 : w4.cell? ⟨w.heap.size, 3, none⟩ = some c3 := (txcell (vs := #[c0, c1, c2, c3]) hR4 3 _ rfl).1
      have hN4 := hN.below (Nat.le_refl _) hB4
      have VC := mkHid (value_at s.ns L no (some ⟨g, 0, none⟩) m lc m t hwell w (.agg #[c0, c1, c2, c3]) w4 ⟨_, _, _, _, rfl, hr⟩ hB14 ⟨hN4, hL4, HRI.out, hS4⟩)
      clear SM
      go_wp2_with (fail)
      refine VC.out.mono ?_
      rintro e w5 ⟨x, ok, rfl, hx, hB5⟩
      have hB15 := bt2 hB14 hB5
      have hZ5 := hZ.below (Nat.le_refl _) (bt2 hB4 hB5)
      have hL5 := hL4.below (Nat.le_refl _) hB5
      have WC := mkHid (worked_at co (some ⟨g, 0, none⟩) m d m m s.cs L s.k w5 hZ5 hL5 rfl hS4)
      have hEQ : Hid (s.k + dotz s.cs L = evT (evE s.ns L) t) := by
        show _ = _
        have h1 := HVAL.out (evE s.ns L)
        unfold Sm.val at h1
        have h2 := dot_dotz s.ns s.cs L (ris_nodup HRI.out) gS.len (by rw [hL4.eqlen, hN.eqlen])
        have h3 : dot (evE s.ns L) s.ns s.cs = dotz s.cs L := h2
        rw [h3] at h1
        omega
      clear VC r0 r1 r2 r3 HVAL
      go_wp2_with (fail)
      refine WC.out.mono ?_
      rintro e w6 ⟨y, ok2, rfl, hy, rfl⟩
      clear WC
      cases ok with
      | false =>
        clear hx hy
        go_wp2_with (fail)
        go_ret
        exact ⟨rfl, hB15⟩
      | true =>
        cases ok2 with
        | false =>
          clear hx hy
          go_wp2_with (fail)
          go_ret
          exact ⟨rfl, hB15⟩
        | true =>
          have e1 : y = x := by rw [hy rfl, (hx rfl).1]; exact hEQ.out
          subst e1
          have hq2 : (y == y) = true := by simp
          clear hx hy
          go_wp2_with (fail)
          go_ret
          exact ⟨rfl, hB15⟩
  · rw [plin_no h0] at hL
    have hv' : v' = .tuple #[.slice none 0 0, .slice none 0 0, .int .i64 0, .int .i64 (chkT nmB t : Nat)] := hL
    subst hv'
    have hx : ((chkT nmB t : Int) == 0) = false := by rw [beq_eq_false_iff_ne]; omega
    generalize chkT nmB t = z at hx
    go_wp2_with (fail)
    go_ret
    exact ⟨rfl, hB13⟩
end Go.Proofs.Ytiapkblebbcfbaa.Gl
