/- NormTurns: what the six atoms come to; normals that are the same. -/
import Derived.Test.YtiapkblebbcfbaaNmU
namespace Go.Proofs.Ytiapkblebbcfbaa.Gl
open Go.RowKit
set_option linter.unusedVariables false
set_option linter.unusedSimpArgs false

abbrev tA (o : Int) (s t : Tm) : Fm := .mk o emp 0 [s, t] []
theorem wf_atom (nm : ByteArray → Bool) {o : Int} (h1 : 9 ≤ o) (h2 : o ≤ 14) : wF nm o emp 0 2 0 = true := by
  unfold wF
  rw [if_neg (by omega), if_neg (by omega), if_pos (by omega), if_pos h1, if_neg (by omega), if_neg (by omega)]
  decide +kernel
theorem chk_op (nm : ByteArray → Bool) (s t : Tm) {o : Int} (h1 : 9 ≤ o) (h2 : o ≤ 14) : chk nm (tA o s t) = chk nm (tA 9 s t) := by
  have e1 : wellF nm (tA o s t) = true := wf_atom nm h1 h2
  have e2 : wellF nm (tA 9 s t) = true := wf_atom nm (by decide) (by decide)
  unfold chk
  rw [meterF, meterF, e1, e2]
theorem chk_turn (s t : Tm) : chk nmB (tA 9 s t) = 0 ↔ chk nmB (tA 9 t s) = 0 := by
  have key : ∀ s t, chk nmB (tA 9 s t) = 0 → chk nmB (tA 9 t s) = 0 := fun s t h => by
    rw [chk_iff] at h ⊢
    obtain ⟨h1, h2, h3⟩ := h
    rw [Fm.size, Tm.sizeL, Tm.sizeL, Tm.sizeL, Fm.sizeL] at h1
    rw [Fm.deep, Tm.deepL, Tm.deepL, Tm.deepL, Fm.deepL] at h2
    refine ⟨?_, ?_, ?_⟩
    · rw [Fm.size, Tm.sizeL, Tm.sizeL, Tm.sizeL, Fm.sizeL]; omega
    · rw [Fm.deep, Tm.deepL, Tm.deepL, Tm.deepL, Fm.deepL]; omega
    · rw [Fm.all, Tm.allL, Tm.allL, Tm.allL, Fm.allL] at h3 ⊢
      simp only [Bool.and_eq_true, Bool.and_true] at h3 ⊢
      exact ⟨wf_atom nmB (by decide) (by decide), h3.2.2, h3.2.1⟩
  exact ⟨key s t, key t s⟩
/-- the six of them -/
structure Six (s t : Tm) : Prop where
  le : (∃ x y : Nat, x ≠ 0 ∧ y ≠ 0 ∧ atm (tA 9 s t) = .er x ∧ atm (tA 13 s t) = .er x ∧ atm (tA 14 s t) = .er x ∧ atm (tA 11 t s) = .er y) ∨ (∃ ns cs k, atm (tA 9 s t) = .ok ⟨0, ns, cs, -k, 0⟩ ∧ atm (tA 11 t s) = .ok ⟨0, ns, cs, -k, 0⟩ ∧ atm (tA 13 s t) = .ok ⟨1, ns, cs, -k, 0⟩ ∧ atm (tA 14 s t) = .ok ⟨1, ns, cs, -k, 0⟩ ∧ ((∃ x y : Nat, x ≠ 0 ∧ y ≠ 0 ∧ atm (tA 10 s t) = .er x ∧ atm (tA 12 t s) = .er y) ∨ (atm (tA 10 s t) = .ok ⟨0, ns, cs, -k - 1, 0⟩ ∧ atm (tA 12 t s) = .ok ⟨0, ns, cs, -k - 1, 0⟩)))
  lt : (∃ x y : Nat, x ≠ 0 ∧ y ≠ 0 ∧ atm (tA 10 s t) = .er x ∧ atm (tA 12 t s) = .er y) ∨ (∃ N, atm (tA 10 s t) = .ok N ∧ atm (tA 12 t s) = .ok N)
theorem nr_le {o : Int} (h : o = 9 ∨ o = 11) (D : Sm) : nrOf o 0 D = ⟨0, D.ns, D.cs, -D.k, 0⟩ := by
  rcases h with rfl | rfl <;> rfl
theorem nr_lt {o : Int} (h : o = 10 ∨ o = 12) (D : Sm) : nrOf o 0 D = ⟨0, D.ns, D.cs, -D.k - 1, 0⟩ := by
  rcases h with rfl | rfl <;> rfl
theorem nr_eq {o : Int} (h : o = 13 ∨ o = 14) (D : Sm) : nrOf o 0 D = ⟨1, D.ns, D.cs, -D.k, 0⟩ := by
  rcases h with rfl | rfl <;> rfl
theorem bd_le {o : Int} (h : o = 9 ∨ o = 11 ∨ o = 13 ∨ o = 14) (k : Int) : bdOf o k = -k := if_neg (by omega)
theorem fin_le {o : Int} (h : o = 9 ∨ o = 11 ∨ o = 13 ∨ o = 14) (D : Sm) : (finS o 0 D = .er 91 ∧ ¬ (in64 (-D.k) = true ∧ Chk.tot D.cs + (-D.k).natAbs ≤ 9223372036854775807)) ∨ (finS o 0 D = .ok (nrOf o 0 D) ∧ (in64 (-D.k) = true ∧ Chk.tot D.cs + (-D.k).natAbs ≤ 9223372036854775807)) := by
  have ht : tight (nrOf o 0 D) ↔ Chk.tot D.cs + (-D.k).natAbs ≤ 9223372036854775807 := by
    rcases h with rfl | rfl | rfl | rfl <;> exact Iff.rfl
  by_cases h1 : in64 (-D.k) = true
  · by_cases h2 : Chk.tot D.cs + (-D.k).natAbs ≤ 9223372036854775807
    · exact .inr ⟨finS_ok ⟨h1, by rw [bd_le h]; exact h1⟩ (ht.2 h2), h1, h2⟩
    · exact .inl ⟨finS_wide ⟨h1, by rw [bd_le h]; exact h1⟩ (fun k => h2 (ht.1 k)), fun k => h2 k.2⟩
  · exact .inl ⟨finS_no (fun k => h1 k.1), fun k => h1 k.1⟩
theorem fin_lt {o : Int} (D : Sm) (h : o = 10 ∨ o = 12) : finS o 0 D = finS 10 0 D := by
  rcases h with rfl | rfl <;> rfl
theorem fin_cases (o m : Int) (D : Sm) : finS o m D = .er 91 ∨ finS o m D = .ok (nrOf o m D) := by
  unfold finS
  split
  · split
    · exact .inr rfl
    · exact .inl rfl
  · exact .inl rfl
theorem six (s t : Tm) : Six s t := by
  by_cases h0 : chk nmB (tA 9 s t) = 0
  · have h0' := (chk_turn s t).1 h0
    have hr := fm_right h0
    have hs := hr.2.1 s (List.mem_cons_self ..)
    have ht := hr.2.1 t (List.mem_cons_of_mem _ (List.mem_cons_self ..))
    have a1 : ∀ o, 9 ≤ o → o ≤ 14 → atm (tA o s t) = match dfS o s t with | .er e => .er e | .ok D => finS o 0 D := fun o h1 h2 => (atm_at (by rw [chk_op nmB s t h1 h2]; exact h0) (by show ¬ o < 9; omega)).trans (atmS_eq o 0 s t)
    have a2 : ∀ o, 9 ≤ o → o ≤ 14 → atm (tA o t s) = match dfS o t s with | .er e => .er e | .ok D => finS o 0 D := fun o h1 h2 => (atm_at (by rw [chk_op nmB t s h1 h2]; exact h0') (by show ¬ o < 9; omega)).trans (atmS_eq o 0 t s)
    -- what both sides come to
    have hd : (∃ x y : Nat, x ≠ 0 ∧ y ≠ 0 ∧ (∀ o, o ≠ 11 → o ≠ 12 → dfS o s t = .er x) ∧ (∀ o, (o = 11 ∨ o = 12) → dfS o t s = .er y)) ∨ ∃ D, (∀ o, o ≠ 11 → o ≠ 12 → dfS o s t = .ok D) ∧ (∀ o, (o = 11 ∨ o = 12) → dfS o t s = .ok D) := by
      unfold dfS difS
      cases hl : lin s with
      | er e =>
        have he : e ≠ 0 := by rcases lin_er nmB s hs e hl with rfl | rfl <;> decide
        cases hm : lin t with
        | er f =>
          have hf : f ≠ 0 := by rcases lin_er nmB t ht f hm with rfl | rfl <;> decide
          exact .inl ⟨e, f, he, hf, fun o _ _ => rfl, fun o _ => rfl⟩
        | ok q => exact .inl ⟨e, e, he, he, fun o _ _ => rfl, fun o _ => rfl⟩
      | ok p =>
        cases hm : lin t with
        | er f =>
          have hf : f ≠ 0 := by rcases lin_er nmB t ht f hm with rfl | rfl <;> decide
          exact .inl ⟨f, f, hf, hf, fun o _ _ => rfl, fun o _ => rfl⟩
        | ok q =>
          by_cases hfit : (cmb (fun a b => a - b) p q).fits = true
          · refine .inr ⟨cmb (fun a b => a - b) p q, fun o h1 h2 => ?_, fun o h => ?_⟩
            · show mkS (if o = 11 ∨ o = 12 then _ else _) = _
              rw [if_neg (by omega)]; exact mkS_yes hfit
            · show mkS (if o = 11 ∨ o = 12 then _ else _) = _
              rw [if_pos h]; exact mkS_yes hfit
          · refine .inl ⟨91, 91, by decide, by decide, fun o h1 h2 => ?_, fun o h => ?_⟩
            · show mkS (if o = 11 ∨ o = 12 then _ else _) = _
              rw [if_neg (by omega)]; exact mkS_no hfit
            · show mkS (if o = 11 ∨ o = 12 then _ else _) = _
              rw [if_pos h]; exact mkS_no hfit
    rcases hd with ⟨x, y, hx, hy, d1, d2⟩ | ⟨D, d1, d2⟩
    · have b1 : ∀ o, 9 ≤ o → o ≤ 14 → o ≠ 11 → o ≠ 12 → atm (tA o s t) = .er x := fun o h1 h2 h3 h4 => (a1 o h1 h2).trans (by rw [d1 o h3 h4])
      have b2 : ∀ o, (o = 11 ∨ o = 12) → atm (tA o t s) = .er y := fun o h => (a2 o (by omega) (by omega)).trans (by rw [d2 o h])
      exact ⟨.inl ⟨x, y, hx, hy, b1 9 (by decide) (by decide) (by decide) (by decide), b1 13 (by decide) (by decide) (by decide) (by decide), b1 14 (by decide) (by decide) (by decide) (by decide), b2 11 (.inl rfl)⟩, .inl ⟨x, y, hx, hy, b1 10 (by decide) (by decide) (by decide) (by decide), b2 12 (.inr rfl)⟩⟩
    · have b1 : ∀ o, 9 ≤ o → o ≤ 14 → o ≠ 11 → o ≠ 12 → atm (tA o s t) = finS o 0 D := fun o h1 h2 h3 h4 => (a1 o h1 h2).trans (by rw [d1 o h3 h4])
      have b2 : ∀ o, (o = 11 ∨ o = 12) → atm (tA o t s) = finS o 0 D := fun o h => (a2 o (by omega) (by omega)).trans (by rw [d2 o h])
      have e9 := b1 9 (by decide) (by decide) (by decide) (by decide)
      have e10 := b1 10 (by decide) (by decide) (by decide) (by decide)
      have e13 := b1 13 (by decide) (by decide) (by decide) (by decide)
      have e14 := b1 14 (by decide) (by decide) (by decide) (by decide)
      have e11 := b2 11 (.inl rfl)
      have e12 := (b2 12 (.inr rfl)).trans (fin_lt D (.inr rfl))
      have hlt : (∃ x y : Nat, x ≠ 0 ∧ y ≠ 0 ∧ atm (tA 10 s t) = .er x ∧ atm (tA 12 t s) = .er y) ∨ (atm (tA 10 s t) = .ok ⟨0, D.ns, D.cs, -D.k - 1, 0⟩ ∧ atm (tA 12 t s) = .ok ⟨0, D.ns, D.cs, -D.k - 1, 0⟩) := by
        rcases fin_cases 10 0 D with h | h
        · exact .inl ⟨91, 91, by decide, by decide, e10.trans h, e12.trans h⟩
        · rw [nr_lt (.inl rfl)] at h
          exact .inr ⟨e10.trans h, e12.trans h⟩
      refine ⟨?_, ?_⟩
      · rcases fin_le (o := 9) (.inl rfl) D with ⟨f9, hn⟩ | ⟨f9, hy⟩
        · have g : ∀ o, (o = 9 ∨ o = 11 ∨ o = 13 ∨ o = 14) → finS o 0 D = .er 91 := fun o h => by
            rcases fin_le h D with ⟨f, -⟩ | ⟨-, f⟩
            · exact f
            · exact absurd f hn
          exact .inl ⟨91, 91, by decide, by decide, e9.trans f9, e13.trans (g 13 (by decide)), e14.trans (g 14 (by decide)), e11.trans (g 11 (by decide))⟩
        · have g : ∀ o, (o = 9 ∨ o = 11 ∨ o = 13 ∨ o = 14) → finS o 0 D = .ok (nrOf o 0 D) := fun o h => by
            rcases fin_le h D with ⟨-, f⟩ | ⟨f, -⟩
            · exact absurd hy f
            · exact f
          exact .inr ⟨D.ns, D.cs, D.k, (e9.trans (g 9 (by decide))).trans (by rw [nr_le (.inl rfl)]), (e11.trans (g 11 (by decide))).trans (by rw [nr_le (.inr rfl)]), (e13.trans (g 13 (by decide))).trans (by rw [nr_eq (.inl rfl)]), (e14.trans (g 14 (by decide))).trans (by rw [nr_eq (.inr rfl)]), hlt⟩
      · rcases hlt with h | ⟨h, k⟩
        · exact .inl h
        · exact .inr ⟨_, h, k⟩
  · have h0' : ¬ chk nmB (tA 9 t s) = 0 := fun h => h0 ((chk_turn s t).2 h)
    have b1 : ∀ o, 9 ≤ o → o ≤ 14 → atm (tA o s t) = .er (chk nmB (tA 9 s t)) := fun o h1 h2 => by
      have := chk_op nmB s t h1 h2
      rw [← this]; exact atm_no (by rw [this]; exact h0)
    have b2 : ∀ o, 9 ≤ o → o ≤ 14 → atm (tA o t s) = .er (chk nmB (tA 9 t s)) := fun o h1 h2 => by
      have := chk_op nmB t s h1 h2
      rw [← this]; exact atm_no (by rw [this]; exact h0')
    exact ⟨.inl ⟨_, _, h0, h0', b1 9 (by decide) (by decide), b1 13 (by decide) (by decide), b1 14 (by decide) (by decide), b2 11 (by decide) (by decide)⟩, .inl ⟨_, _, h0, h0', b1 10 (by decide) (by decide), b2 12 (by decide) (by decide)⟩⟩
set_option maxHeartbeats 2000000 in
theorem normals_yes (k b m : Int) (T : List ByteArray) (U : List Int) (no no' co co' : Option Addr) (n c o d n' c' o' d' : Nat) (w : World) (h1 : RdS w no n c T) (h2 : RdS w no' n' c' T) (h3 : RdZ w co o d U) (h4 : RdZ w co' o' d' U) :
    Calls Try.prog 10 #[nrV k b m no co n c o d, nrV k b m no' co' n' c' o' d'] w fun e w' => e = .returned (.bool true) ∧ Below w.heap.size w w' := by
  have hR1 := rb_new w (nrA k b m no co n c o d) 26
  have hB1 := bal w (.cells (nrA k b m no co n c o d) 26)
  have hs1 : (w.alloc (.cells (nrA k b m no co n c o d) 26)).heap.size = w.heap.size + 1 := by simp
  have hR2 := rb_new (w.alloc (.cells (nrA k b m no co n c o d) 26)) (nrA k b m no' co' n' c' o' d') 26
  rw [hs1] at hR2
  have hR1' := hR1.keep (bal _ (.cells (nrA k b m no' co' n' c' o' d') 26))
  have hB2 := bt2 hB1 (bal _ (.cells (nrA k b m no' co' n' c' o' d') 26))
  have S1 := mkHid (nsame_at no no' n c n' c' T T true _ (h1.below (Nat.le_refl _) hB2) (h2.below (Nat.le_refl _) hB2) ⟨fun _ => rfl, fun _ => rfl⟩)
  have S2 : Hid (∀ w', Below w.heap.size w w' → Calls Try.prog 22 #[.slice co o d, .slice co' o' d'] w' fun e w'' => e = .returned (.bool true) ∧ Below w'.heap.size w' w'') := fun w' hb => numbers_at co co' o d o' d' U U true w' (h3.below (Nat.le_refl _) hb) (h4.below (Nat.le_refl _) hb) ⟨fun _ => rfl, fun _ => rfl⟩
  have k1 : (k == k) = true := by simp
  have k2 : (b == b) = true := by simp
  have k3 : (m == m) = true := by simp
  clear hs1 h1 h2 h3 h4 hR1
  go_enter Try.func10, Try.ntmps10
  go_wp2_with (fail)
  generalize (w.alloc (.cells (nrA k b m no co n c o d) 26)).alloc (.cells (nrA k b m no' co' n' c' o' d') 26) = w1 at hR1' hR2 hB2 S1 ⊢
  refine S1.out.mono ?_
  rintro e w2 ⟨rfl, hB3⟩
  have hRa := hR1'.keep hB3
  have hRb := hR2.keep hB3
  have a2 : w2.cell? ⟨w.heap.size, 2, none⟩ = some (.slice co o d) := (txcell (vs := nrA k b m no co n c o d) hRa 2 _ rfl).1
  have b2 : w2.cell? ⟨w.heap.size + 1, 2, none⟩ = some (.slice co' o' d') := (txcell (vs := nrA k b m no' co' n' c' o' d') hRb 2 _ rfl).1
  go_wp2_with (fail)
  refine (S2.out w2 (bt2 hB2 hB3)).mono ?_
  rintro e w4 ⟨rfl, hB4⟩
  have hRc := hRa.keep hB4
  have hRd := hRb.keep hB4
  have a3 : w4.cell? ⟨w.heap.size, 3, none⟩ = some (.int .i64 b) := (txcell (vs := nrA k b m no co n c o d) hRc 3 _ rfl).1
  have b3 : w4.cell? ⟨w.heap.size + 1, 3, none⟩ = some (.int .i64 b) := (txcell (vs := nrA k b m no' co' n' c' o' d') hRd 3 _ rfl).1
  have a4 : w4.cell? ⟨w.heap.size, 4, none⟩ = some (.int .i64 m) := (txcell (vs := nrA k b m no co n c o d) hRc 4 _ rfl).1
  have b4 : w4.cell? ⟨w.heap.size + 1, 4, none⟩ = some (.int .i64 m) := (txcell (vs := nrA k b m no' co' n' c' o' d') hRd 4 _ rfl).1
  clear a2 b2 S1 S2
  go_wp2_with (fail)
  go_ret
  exact ⟨rfl, bt2 (bt2 hB2 hB3) hB4⟩
end Go.Proofs.Ytiapkblebbcfbaa.Gl
/- NormTurns: the walk. -/
namespace Go.Proofs.Ytiapkblebbcfbaa.Gl
open Go.RowKit
set_option linter.unusedVariables false
set_option linter.unusedSimpArgs false

set_option maxRecDepth 100000 in
set_option maxHeartbeats 8000000 in
theorem turns_ee (s t : Tm) (v0 v1 : Value) (w : World) (hs : TmV w s v0) (ht : TmV w t v1) (x y : Nat) (hx : x ≠ 0) (hy : y ≠ 0) (x2 y2 : Nat) (hx2 : x2 ≠ 0) (hy2 : y2 ≠ 0) (h9 : atm (tA 9 s t) = .er x) (h11 : atm (tA 11 t s) = .er y) (h13 : atm (tA 13 s t) = .er x) (h14 : atm (tA 14 s t) = .er x) (h10 : atm (tA 10 s t) = .er x2) (h12 : atm (tA 12 t s) = .er y2) :
    Calls Try.prog 6 #[v0, v1] w fun e w' => e = .returned (.bool true) ∧ Below w.heap.size w w' := by
  obtain ⟨c0, c1, c2, c3, rfl, hrs⟩ := hs
  obtain ⟨d0, d1, d2, d3, rfl, hrt⟩ := ht
  have nx : ((x : Int) == 0) = false := by rw [beq_eq_false_iff_ne]; omega
  have ny : ((y : Int) == 0) = false := by rw [beq_eq_false_iff_ne]; omega
  have nx2 : ((x2 : Int) == 0) = false := by rw [beq_eq_false_iff_ne]; omega
  have ny2 : ((y2 : Int) == 0) = false := by rw [beq_eq_false_iff_ne]; omega
  have exx : ((x : Int) == (x : Int)) = true := by simp
  have hR1 := rb_new w #[c0, c1, c2, c3] 35
  have hB1 := bal w (.cells #[c0, c1, c2, c3] 35)
  have hs1 : (w.alloc (.cells #[c0, c1, c2, c3] 35)).heap.size = w.heap.size + 1 := by simp
  have hR2 := rb_new (w.alloc (.cells #[c0, c1, c2, c3] 35)) #[d0, d1, d2, d3] 35
  rw [hs1] at hR2
  have hR1' := hR1.keep (bal _ (.cells #[d0, d1, d2, d3] 35))
  have hB2 := bt2 hB1 (bal _ (.cells #[d0, d1, d2, d3] 35))
  have FX := mkHid (nfixed_at ((w.alloc (.cells #[c0, c1, c2, c3] 35)).alloc (.cells #[d0, d1, d2, d3] 35)))
  clear hR1 hB1 hs1
  go_enter Try.func6, Try.ntmps6
  go_wp2_with (fail)
  refine FX.out.mono ?_
  rintro e w1 ⟨rfl, hB3⟩
  have bel0 := mkHid (bt2 hB2 hB3)
  have fs_0 := mkHid (hR1'.keep hB3)
  have ft_0 := mkHid (hR2.keep hB3)
  have HRS := mkHid hrs
  have HRT := mkHid hrt
  have HH9 := mkHid h9
  have HH10 := mkHid h10
  have HH11 := mkHid h11
  have HH12 := mkHid h12
  have HH13 := mkHid h13
  have HH14 := mkHid h14
  have H_nx := mkHid nx
  have H_ny := mkHid ny
  have H_exx := mkHid exx
  have H_nx2 := mkHid nx2
  have H_ny2 := mkHid ny2
  clear hrs hrt h9 h10 h11 h12 h13 h14 nx ny exx nx2 ny2
  clear FX hR1' hR2 hB2 hB3
  have q0 : Hid (w.heap.size + 2 ≤ w1.heap.size) := (Array.getElem?_eq_some_iff.1 ft_0.out).1
  have xs0 : (w1).cell? ⟨w.heap.size, 0, none⟩ = some c0 := (txcell (vs := #[c0, c1, c2, c3]) fs_0.out 0 _ rfl).1
  have xt0 : (w1).cell? ⟨w.heap.size + 1, 0, none⟩ = some d0 := (txcell (vs := #[d0, d1, d2, d3]) ft_0.out 0 _ rfl).1
  have xs1 : (w1).cell? ⟨w.heap.size, 1, none⟩ = some c1 := (txcell (vs := #[c0, c1, c2, c3]) fs_0.out 1 _ rfl).1
  have xt1 : (w1).cell? ⟨w.heap.size + 1, 1, none⟩ = some d1 := (txcell (vs := #[d0, d1, d2, d3]) ft_0.out 1 _ rfl).1
  have xs2 : (w1).cell? ⟨w.heap.size, 2, none⟩ = some c2 := (txcell (vs := #[c0, c1, c2, c3]) fs_0.out 2 _ rfl).1
  have xt2 : (w1).cell? ⟨w.heap.size + 1, 2, none⟩ = some d2 := (txcell (vs := #[d0, d1, d2, d3]) ft_0.out 2 _ rfl).1
  have xs3 : (w1).cell? ⟨w.heap.size, 3, none⟩ = some c3 := (txcell (vs := #[c0, c1, c2, c3]) fs_0.out 3 _ rfl).1
  have xt3 : (w1).cell? ⟨w.heap.size + 1, 3, none⟩ = some d3 := (txcell (vs := #[d0, d1, d2, d3]) ft_0.out 3 _ rfl).1
  have AC := mkHid (atom_any _ (tA 9 s t) _ _ (mk_atom (W := w1) (T := 35) (RdT.kept bel0.out s _ _ _ _ HRS.out) (RdT.kept bel0.out t _ _ _ _ HRT.out) 9 ⟨by decide, by decide⟩ rfl) (Below.refl _ _))
  rw [HH9.out] at AC
  have wlt : w.heap.size + 2 ≤ w1.heap.size := q0.out
  go_wp2_with (fail)
  refine AC.out.mono ?_
  rintro e Y1 ⟨r0, rfl, hV, hC0⟩
  have hv : r0 = .tuple #[.agg zN, .int .i64 (x : Nat)] := hV
  subst hv
  clear hV
  have hK0 := mkHid (bt2 (bt2 (bal (w1) (.cells #[c0, c1, c2, c3, d0, d1, d2, d3] 35)) hC0) (bal Y1 (.cells #[.int .i64 0, .slice none 0 0, .slice none 0 0, .int .i64 0, .int .i64 0] 26)))
  have bel1 := mkHid (bt2 bel0.out hK0.out)
  have fs_1 := mkHid (fs_0.out.keep hK0.out)
  have ft_1 := mkHid (ft_0.out.keep hK0.out)
  have p_le := mkHid (rb_new Y1 #[.int .i64 0, .slice none 0 0, .slice none 0 0, .int .i64 0, .int .i64 0] 26)
  have q1 : Hid (w.heap.size + 2 ≤ Y1.heap.size) := by have h1 := hC0.size; have h2 := q0.out; simp only [World.size_alloc] at h1; show _ ≤ _; omega
  clear AC wlt xs0 xs1 xs2 xs3 xt0 xt1 xt2 xt3 fs_0 ft_0 bel0 hC0
  have xs0 : ((Y1.alloc (.cells #[.int .i64 0, .slice none 0 0, .slice none 0 0, .int .i64 0, .int .i64 0] 26))).cell? ⟨w.heap.size, 0, none⟩ = some c0 := (txcell (vs := #[c0, c1, c2, c3]) fs_1.out 0 _ rfl).1
  have xt0 : ((Y1.alloc (.cells #[.int .i64 0, .slice none 0 0, .slice none 0 0, .int .i64 0, .int .i64 0] 26))).cell? ⟨w.heap.size + 1, 0, none⟩ = some d0 := (txcell (vs := #[d0, d1, d2, d3]) ft_1.out 0 _ rfl).1
  have xs1 : ((Y1.alloc (.cells #[.int .i64 0, .slice none 0 0, .slice none 0 0, .int .i64 0, .int .i64 0] 26))).cell? ⟨w.heap.size, 1, none⟩ = some c1 := (txcell (vs := #[c0, c1, c2, c3]) fs_1.out 1 _ rfl).1
  have xt1 : ((Y1.alloc (.cells #[.int .i64 0, .slice none 0 0, .slice none 0 0, .int .i64 0, .int .i64 0] 26))).cell? ⟨w.heap.size + 1, 1, none⟩ = some d1 := (txcell (vs := #[d0, d1, d2, d3]) ft_1.out 1 _ rfl).1
  have xs2 : ((Y1.alloc (.cells #[.int .i64 0, .slice none 0 0, .slice none 0 0, .int .i64 0, .int .i64 0] 26))).cell? ⟨w.heap.size, 2, none⟩ = some c2 := (txcell (vs := #[c0, c1, c2, c3]) fs_1.out 2 _ rfl).1
  have xt2 : ((Y1.alloc (.cells #[.int .i64 0, .slice none 0 0, .slice none 0 0, .int .i64 0, .int .i64 0] 26))).cell? ⟨w.heap.size + 1, 2, none⟩ = some d2 := (txcell (vs := #[d0, d1, d2, d3]) ft_1.out 2 _ rfl).1
  have xs3 : ((Y1.alloc (.cells #[.int .i64 0, .slice none 0 0, .slice none 0 0, .int .i64 0, .int .i64 0] 26))).cell? ⟨w.heap.size, 3, none⟩ = some c3 := (txcell (vs := #[c0, c1, c2, c3]) fs_1.out 3 _ rfl).1
  have xt3 : ((Y1.alloc (.cells #[.int .i64 0, .slice none 0 0, .slice none 0 0, .int .i64 0, .int .i64 0] 26))).cell? ⟨w.heap.size + 1, 3, none⟩ = some d3 := (txcell (vs := #[d0, d1, d2, d3]) ft_1.out 3 _ rfl).1
  have AC := mkHid (atom_any _ (tA 11 t s) _ _ (mk_atom (W := (Y1.alloc (.cells #[.int .i64 0, .slice none 0 0, .slice none 0 0, .int .i64 0, .int .i64 0] 26))) (T := 35) (RdT.kept bel1.out t _ _ _ _ HRT.out) (RdT.kept bel1.out s _ _ _ _ HRS.out) 11 ⟨by decide, by decide⟩ (show _ = Y1.heap.size + 1 by simp)) (Below.refl _ _))
  rw [HH11.out] at AC
  have wlt : w.heap.size + 2 ≤ Y1.heap.size := q1.out
  go_wp2_with (fail)
  refine AC.out.mono ?_
  rintro e Y2 ⟨r1, rfl, hV, hC1⟩
  have hv : r1 = .tuple #[.agg zN, .int .i64 (y : Nat)] := hV
  subst hv
  clear hV
  have hK1 := mkHid (bt2 (bt2 (bal ((Y1.alloc (.cells #[.int .i64 0, .slice none 0 0, .slice none 0 0, .int .i64 0, .int .i64 0] 26))) (.cells #[d0, d1, d2, d3, c0, c1, c2, c3] 35)) hC1) (bal Y2 (.cells #[.int .i64 0, .slice none 0 0, .slice none 0 0, .int .i64 0, .int .i64 0] 26)))
  have bel2 := mkHid (bt2 bel1.out hK1.out)
  have fs_2 := mkHid (fs_1.out.keep hK1.out)
  have ft_2 := mkHid (ft_1.out.keep hK1.out)
  replace p_le := mkHid (p_le.out.keep hK1.out)
  have p_ge := mkHid (rb_new Y2 #[.int .i64 0, .slice none 0 0, .slice none 0 0, .int .i64 0, .int .i64 0] 26)
  have q2 : Hid (w.heap.size + 2 ≤ Y2.heap.size) := by have h1 := hC1.size; have h2 := q1.out; simp only [World.size_alloc] at h1; show _ ≤ _; omega
  have zz1 : Hid (Y1.heap.size + 1 ≤ Y2.heap.size) := by have h1 := hC1.size; simp only [World.size_alloc] at h1; show _ ≤ _; omega
  clear AC wlt xs0 xs1 xs2 xs3 xt0 xt1 xt2 xt3 fs_1 ft_1 bel1 hC1
  have xs0 : ((Y2.alloc (.cells #[.int .i64 0, .slice none 0 0, .slice none 0 0, .int .i64 0, .int .i64 0] 26))).cell? ⟨w.heap.size, 0, none⟩ = some c0 := (txcell (vs := #[c0, c1, c2, c3]) fs_2.out 0 _ rfl).1
  have xt0 : ((Y2.alloc (.cells #[.int .i64 0, .slice none 0 0, .slice none 0 0, .int .i64 0, .int .i64 0] 26))).cell? ⟨w.heap.size + 1, 0, none⟩ = some d0 := (txcell (vs := #[d0, d1, d2, d3]) ft_2.out 0 _ rfl).1
  have xs1 : ((Y2.alloc (.cells #[.int .i64 0, .slice none 0 0, .slice none 0 0, .int .i64 0, .int .i64 0] 26))).cell? ⟨w.heap.size, 1, none⟩ = some c1 := (txcell (vs := #[c0, c1, c2, c3]) fs_2.out 1 _ rfl).1
  have xt1 : ((Y2.alloc (.cells #[.int .i64 0, .slice none 0 0, .slice none 0 0, .int .i64 0, .int .i64 0] 26))).cell? ⟨w.heap.size + 1, 1, none⟩ = some d1 := (txcell (vs := #[d0, d1, d2, d3]) ft_2.out 1 _ rfl).1
  have xs2 : ((Y2.alloc (.cells #[.int .i64 0, .slice none 0 0, .slice none 0 0, .int .i64 0, .int .i64 0] 26))).cell? ⟨w.heap.size, 2, none⟩ = some c2 := (txcell (vs := #[c0, c1, c2, c3]) fs_2.out 2 _ rfl).1
  have xt2 : ((Y2.alloc (.cells #[.int .i64 0, .slice none 0 0, .slice none 0 0, .int .i64 0, .int .i64 0] 26))).cell? ⟨w.heap.size + 1, 2, none⟩ = some d2 := (txcell (vs := #[d0, d1, d2, d3]) ft_2.out 2 _ rfl).1
  have xs3 : ((Y2.alloc (.cells #[.int .i64 0, .slice none 0 0, .slice none 0 0, .int .i64 0, .int .i64 0] 26))).cell? ⟨w.heap.size, 3, none⟩ = some c3 := (txcell (vs := #[c0, c1, c2, c3]) fs_2.out 3 _ rfl).1
  have xt3 : ((Y2.alloc (.cells #[.int .i64 0, .slice none 0 0, .slice none 0 0, .int .i64 0, .int .i64 0] 26))).cell? ⟨w.heap.size + 1, 3, none⟩ = some d3 := (txcell (vs := #[d0, d1, d2, d3]) ft_2.out 3 _ rfl).1
  have AC := mkHid (atom_any _ (tA 10 s t) _ _ (mk_atom (W := (Y2.alloc (.cells #[.int .i64 0, .slice none 0 0, .slice none 0 0, .int .i64 0, .int .i64 0] 26))) (T := 35) (RdT.kept bel2.out s _ _ _ _ HRS.out) (RdT.kept bel2.out t _ _ _ _ HRT.out) 10 ⟨by decide, by decide⟩ (show _ = Y2.heap.size + 1 by simp)) (Below.refl _ _))
  rw [HH10.out] at AC
  have wlt : w.heap.size + 2 ≤ Y2.heap.size := q2.out
  go_wp2_with (fail)
  refine AC.out.mono ?_
  rintro e Y3 ⟨r2, rfl, hV, hC2⟩
  have hv : r2 = .tuple #[.agg zN, .int .i64 (x2 : Nat)] := hV
  subst hv
  clear hV
  have hK2 := mkHid (bt2 (bt2 (bal ((Y2.alloc (.cells #[.int .i64 0, .slice none 0 0, .slice none 0 0, .int .i64 0, .int .i64 0] 26))) (.cells #[c0, c1, c2, c3, d0, d1, d2, d3] 35)) hC2) (bal Y3 (.cells #[.int .i64 0, .slice none 0 0, .slice none 0 0, .int .i64 0, .int .i64 0] 26)))
  have bel3 := mkHid (bt2 bel2.out hK2.out)
  have fs_3 := mkHid (fs_2.out.keep hK2.out)
  have ft_3 := mkHid (ft_2.out.keep hK2.out)
  replace p_le := mkHid (p_le.out.keep hK2.out)
  replace p_ge := mkHid (p_ge.out.keep hK2.out)
  have p_lt := mkHid (rb_new Y3 #[.int .i64 0, .slice none 0 0, .slice none 0 0, .int .i64 0, .int .i64 0] 26)
  have q3 : Hid (w.heap.size + 2 ≤ Y3.heap.size) := by have h1 := hC2.size; have h2 := q2.out; simp only [World.size_alloc] at h1; show _ ≤ _; omega
  have zz2 : Hid (Y2.heap.size + 1 ≤ Y3.heap.size) := by have h1 := hC2.size; simp only [World.size_alloc] at h1; show _ ≤ _; omega
  clear AC wlt xs0 xs1 xs2 xs3 xt0 xt1 xt2 xt3 fs_2 ft_2 bel2 hC2
  have xs0 : ((Y3.alloc (.cells #[.int .i64 0, .slice none 0 0, .slice none 0 0, .int .i64 0, .int .i64 0] 26))).cell? ⟨w.heap.size, 0, none⟩ = some c0 := (txcell (vs := #[c0, c1, c2, c3]) fs_3.out 0 _ rfl).1
  have xt0 : ((Y3.alloc (.cells #[.int .i64 0, .slice none 0 0, .slice none 0 0, .int .i64 0, .int .i64 0] 26))).cell? ⟨w.heap.size + 1, 0, none⟩ = some d0 := (txcell (vs := #[d0, d1, d2, d3]) ft_3.out 0 _ rfl).1
  have xs1 : ((Y3.alloc (.cells #[.int .i64 0, .slice none 0 0, .slice none 0 0, .int .i64 0, .int .i64 0] 26))).cell? ⟨w.heap.size, 1, none⟩ = some c1 := (txcell (vs := #[c0, c1, c2, c3]) fs_3.out 1 _ rfl).1
  have xt1 : ((Y3.alloc (.cells #[.int .i64 0, .slice none 0 0, .slice none 0 0, .int .i64 0, .int .i64 0] 26))).cell? ⟨w.heap.size + 1, 1, none⟩ = some d1 := (txcell (vs := #[d0, d1, d2, d3]) ft_3.out 1 _ rfl).1
  have xs2 : ((Y3.alloc (.cells #[.int .i64 0, .slice none 0 0, .slice none 0 0, .int .i64 0, .int .i64 0] 26))).cell? ⟨w.heap.size, 2, none⟩ = some c2 := (txcell (vs := #[c0, c1, c2, c3]) fs_3.out 2 _ rfl).1
  have xt2 : ((Y3.alloc (.cells #[.int .i64 0, .slice none 0 0, .slice none 0 0, .int .i64 0, .int .i64 0] 26))).cell? ⟨w.heap.size + 1, 2, none⟩ = some d2 := (txcell (vs := #[d0, d1, d2, d3]) ft_3.out 2 _ rfl).1
  have xs3 : ((Y3.alloc (.cells #[.int .i64 0, .slice none 0 0, .slice none 0 0, .int .i64 0, .int .i64 0] 26))).cell? ⟨w.heap.size, 3, none⟩ = some c3 := (txcell (vs := #[c0, c1, c2, c3]) fs_3.out 3 _ rfl).1
  have xt3 : ((Y3.alloc (.cells #[.int .i64 0, .slice none 0 0, .slice none 0 0, .int .i64 0, .int .i64 0] 26))).cell? ⟨w.heap.size + 1, 3, none⟩ = some d3 := (txcell (vs := #[d0, d1, d2, d3]) ft_3.out 3 _ rfl).1
  have AC := mkHid (atom_any _ (tA 12 t s) _ _ (mk_atom (W := (Y3.alloc (.cells #[.int .i64 0, .slice none 0 0, .slice none 0 0, .int .i64 0, .int .i64 0] 26))) (T := 35) (RdT.kept bel3.out t _ _ _ _ HRT.out) (RdT.kept bel3.out s _ _ _ _ HRS.out) 12 ⟨by decide, by decide⟩ (show _ = Y3.heap.size + 1 by simp)) (Below.refl _ _))
  rw [HH12.out] at AC
  have wlt : w.heap.size + 2 ≤ Y3.heap.size := q3.out
  go_wp2_with (fail)
  refine AC.out.mono ?_
  rintro e Y4 ⟨r3, rfl, hV, hC3⟩
  have hv : r3 = .tuple #[.agg zN, .int .i64 (y2 : Nat)] := hV
  subst hv
  clear hV
  have hK3 := mkHid (bt2 (bt2 (bal ((Y3.alloc (.cells #[.int .i64 0, .slice none 0 0, .slice none 0 0, .int .i64 0, .int .i64 0] 26))) (.cells #[d0, d1, d2, d3, c0, c1, c2, c3] 35)) hC3) (bal Y4 (.cells #[.int .i64 0, .slice none 0 0, .slice none 0 0, .int .i64 0, .int .i64 0] 26)))
  have bel4 := mkHid (bt2 bel3.out hK3.out)
  have fs_4 := mkHid (fs_3.out.keep hK3.out)
  have ft_4 := mkHid (ft_3.out.keep hK3.out)
  replace p_le := mkHid (p_le.out.keep hK3.out)
  replace p_ge := mkHid (p_ge.out.keep hK3.out)
  replace p_lt := mkHid (p_lt.out.keep hK3.out)
  have p_gt := mkHid (rb_new Y4 #[.int .i64 0, .slice none 0 0, .slice none 0 0, .int .i64 0, .int .i64 0] 26)
  have q4 : Hid (w.heap.size + 2 ≤ Y4.heap.size) := by have h1 := hC3.size; have h2 := q3.out; simp only [World.size_alloc] at h1; show _ ≤ _; omega
  have zz3 : Hid (Y3.heap.size + 1 ≤ Y4.heap.size) := by have h1 := hC3.size; simp only [World.size_alloc] at h1; show _ ≤ _; omega
  clear AC wlt xs0 xs1 xs2 xs3 xt0 xt1 xt2 xt3 fs_3 ft_3 bel3 hC3
  have xs0 : ((Y4.alloc (.cells #[.int .i64 0, .slice none 0 0, .slice none 0 0, .int .i64 0, .int .i64 0] 26))).cell? ⟨w.heap.size, 0, none⟩ = some c0 := (txcell (vs := #[c0, c1, c2, c3]) fs_4.out 0 _ rfl).1
  have xt0 : ((Y4.alloc (.cells #[.int .i64 0, .slice none 0 0, .slice none 0 0, .int .i64 0, .int .i64 0] 26))).cell? ⟨w.heap.size + 1, 0, none⟩ = some d0 := (txcell (vs := #[d0, d1, d2, d3]) ft_4.out 0 _ rfl).1
  have xs1 : ((Y4.alloc (.cells #[.int .i64 0, .slice none 0 0, .slice none 0 0, .int .i64 0, .int .i64 0] 26))).cell? ⟨w.heap.size, 1, none⟩ = some c1 := (txcell (vs := #[c0, c1, c2, c3]) fs_4.out 1 _ rfl).1
  have xt1 : ((Y4.alloc (.cells #[.int .i64 0, .slice none 0 0, .slice none 0 0, .int .i64 0, .int .i64 0] 26))).cell? ⟨w.heap.size + 1, 1, none⟩ = some d1 := (txcell (vs := #[d0, d1, d2, d3]) ft_4.out 1 _ rfl).1
  have xs2 : ((Y4.alloc (.cells #[.int .i64 0, .slice none 0 0, .slice none 0 0, .int .i64 0, .int .i64 0] 26))).cell? ⟨w.heap.size, 2, none⟩ = some c2 := (txcell (vs := #[c0, c1, c2, c3]) fs_4.out 2 _ rfl).1
  have xt2 : ((Y4.alloc (.cells #[.int .i64 0, .slice none 0 0, .slice none 0 0, .int .i64 0, .int .i64 0] 26))).cell? ⟨w.heap.size + 1, 2, none⟩ = some d2 := (txcell (vs := #[d0, d1, d2, d3]) ft_4.out 2 _ rfl).1
  have xs3 : ((Y4.alloc (.cells #[.int .i64 0, .slice none 0 0, .slice none 0 0, .int .i64 0, .int .i64 0] 26))).cell? ⟨w.heap.size, 3, none⟩ = some c3 := (txcell (vs := #[c0, c1, c2, c3]) fs_4.out 3 _ rfl).1
  have xt3 : ((Y4.alloc (.cells #[.int .i64 0, .slice none 0 0, .slice none 0 0, .int .i64 0, .int .i64 0] 26))).cell? ⟨w.heap.size + 1, 3, none⟩ = some d3 := (txcell (vs := #[d0, d1, d2, d3]) ft_4.out 3 _ rfl).1
  have AC := mkHid (atom_any _ (tA 13 s t) _ _ (mk_atom (W := (Y4.alloc (.cells #[.int .i64 0, .slice none 0 0, .slice none 0 0, .int .i64 0, .int .i64 0] 26))) (T := 35) (RdT.kept bel4.out s _ _ _ _ HRS.out) (RdT.kept bel4.out t _ _ _ _ HRT.out) 13 ⟨by decide, by decide⟩ (show _ = Y4.heap.size + 1 by simp)) (Below.refl _ _))
  rw [HH13.out] at AC
  have wlt : w.heap.size + 2 ≤ Y4.heap.size := q4.out
  go_wp2_with (fail)
  refine AC.out.mono ?_
  rintro e Y5 ⟨r4, rfl, hV, hC4⟩
  have hv : r4 = .tuple #[.agg zN, .int .i64 (x : Nat)] := hV
  subst hv
  clear hV
  have hK4 := mkHid (bt2 (bt2 (bal ((Y4.alloc (.cells #[.int .i64 0, .slice none 0 0, .slice none 0 0, .int .i64 0, .int .i64 0] 26))) (.cells #[c0, c1, c2, c3, d0, d1, d2, d3] 35)) hC4) (bal Y5 (.cells #[.int .i64 0, .slice none 0 0, .slice none 0 0, .int .i64 0, .int .i64 0] 26)))
  have bel5 := mkHid (bt2 bel4.out hK4.out)
  have fs_5 := mkHid (fs_4.out.keep hK4.out)
  have ft_5 := mkHid (ft_4.out.keep hK4.out)
  replace p_le := mkHid (p_le.out.keep hK4.out)
  replace p_ge := mkHid (p_ge.out.keep hK4.out)
  replace p_lt := mkHid (p_lt.out.keep hK4.out)
  replace p_gt := mkHid (p_gt.out.keep hK4.out)
  have p_eq := mkHid (rb_new Y5 #[.int .i64 0, .slice none 0 0, .slice none 0 0, .int .i64 0, .int .i64 0] 26)
  have q5 : Hid (w.heap.size + 2 ≤ Y5.heap.size) := by have h1 := hC4.size; have h2 := q4.out; simp only [World.size_alloc] at h1; show _ ≤ _; omega
  have zz4 : Hid (Y4.heap.size + 1 ≤ Y5.heap.size) := by have h1 := hC4.size; simp only [World.size_alloc] at h1; show _ ≤ _; omega
  clear AC wlt xs0 xs1 xs2 xs3 xt0 xt1 xt2 xt3 fs_4 ft_4 bel4 hC4
  have xs0 : ((Y5.alloc (.cells #[.int .i64 0, .slice none 0 0, .slice none 0 0, .int .i64 0, .int .i64 0] 26))).cell? ⟨w.heap.size, 0, none⟩ = some c0 := (txcell (vs := #[c0, c1, c2, c3]) fs_5.out 0 _ rfl).1
  have xt0 : ((Y5.alloc (.cells #[.int .i64 0, .slice none 0 0, .slice none 0 0, .int .i64 0, .int .i64 0] 26))).cell? ⟨w.heap.size + 1, 0, none⟩ = some d0 := (txcell (vs := #[d0, d1, d2, d3]) ft_5.out 0 _ rfl).1
  have xs1 : ((Y5.alloc (.cells #[.int .i64 0, .slice none 0 0, .slice none 0 0, .int .i64 0, .int .i64 0] 26))).cell? ⟨w.heap.size, 1, none⟩ = some c1 := (txcell (vs := #[c0, c1, c2, c3]) fs_5.out 1 _ rfl).1
  have xt1 : ((Y5.alloc (.cells #[.int .i64 0, .slice none 0 0, .slice none 0 0, .int .i64 0, .int .i64 0] 26))).cell? ⟨w.heap.size + 1, 1, none⟩ = some d1 := (txcell (vs := #[d0, d1, d2, d3]) ft_5.out 1 _ rfl).1
  have xs2 : ((Y5.alloc (.cells #[.int .i64 0, .slice none 0 0, .slice none 0 0, .int .i64 0, .int .i64 0] 26))).cell? ⟨w.heap.size, 2, none⟩ = some c2 := (txcell (vs := #[c0, c1, c2, c3]) fs_5.out 2 _ rfl).1
  have xt2 : ((Y5.alloc (.cells #[.int .i64 0, .slice none 0 0, .slice none 0 0, .int .i64 0, .int .i64 0] 26))).cell? ⟨w.heap.size + 1, 2, none⟩ = some d2 := (txcell (vs := #[d0, d1, d2, d3]) ft_5.out 2 _ rfl).1
  have xs3 : ((Y5.alloc (.cells #[.int .i64 0, .slice none 0 0, .slice none 0 0, .int .i64 0, .int .i64 0] 26))).cell? ⟨w.heap.size, 3, none⟩ = some c3 := (txcell (vs := #[c0, c1, c2, c3]) fs_5.out 3 _ rfl).1
  have xt3 : ((Y5.alloc (.cells #[.int .i64 0, .slice none 0 0, .slice none 0 0, .int .i64 0, .int .i64 0] 26))).cell? ⟨w.heap.size + 1, 3, none⟩ = some d3 := (txcell (vs := #[d0, d1, d2, d3]) ft_5.out 3 _ rfl).1
  have AC := mkHid (atom_any _ (tA 14 s t) _ _ (mk_atom (W := (Y5.alloc (.cells #[.int .i64 0, .slice none 0 0, .slice none 0 0, .int .i64 0, .int .i64 0] 26))) (T := 35) (RdT.kept bel5.out s _ _ _ _ HRS.out) (RdT.kept bel5.out t _ _ _ _ HRT.out) 14 ⟨by decide, by decide⟩ (show _ = Y5.heap.size + 1 by simp)) (Below.refl _ _))
  rw [HH14.out] at AC
  have wlt : w.heap.size + 2 ≤ Y5.heap.size := q5.out
  go_wp2_with (fail)
  refine AC.out.mono ?_
  rintro e Y6 ⟨r5, rfl, hV, hC5⟩
  have hv : r5 = .tuple #[.agg zN, .int .i64 (x : Nat)] := hV
  subst hv
  clear hV
  have hK5 := mkHid (bt2 (bt2 (bal ((Y5.alloc (.cells #[.int .i64 0, .slice none 0 0, .slice none 0 0, .int .i64 0, .int .i64 0] 26))) (.cells #[c0, c1, c2, c3, d0, d1, d2, d3] 35)) hC5) (bal Y6 (.cells #[.int .i64 0, .slice none 0 0, .slice none 0 0, .int .i64 0, .int .i64 0] 26)))
  have bel6 := mkHid (bt2 bel5.out hK5.out)
  have fs_6 := mkHid (fs_5.out.keep hK5.out)
  have ft_6 := mkHid (ft_5.out.keep hK5.out)
  replace p_le := mkHid (p_le.out.keep hK5.out)
  replace p_ge := mkHid (p_ge.out.keep hK5.out)
  replace p_lt := mkHid (p_lt.out.keep hK5.out)
  replace p_gt := mkHid (p_gt.out.keep hK5.out)
  replace p_eq := mkHid (p_eq.out.keep hK5.out)
  have p_ne := mkHid (rb_new Y6 #[.int .i64 0, .slice none 0 0, .slice none 0 0, .int .i64 0, .int .i64 0] 26)
  have q6 : Hid (w.heap.size + 2 ≤ Y6.heap.size) := by have h1 := hC5.size; have h2 := q5.out; simp only [World.size_alloc] at h1; show _ ≤ _; omega
  have zz5 : Hid (Y5.heap.size + 1 ≤ Y6.heap.size) := by have h1 := hC5.size; simp only [World.size_alloc] at h1; show _ ≤ _; omega
  clear AC wlt xs0 xs1 xs2 xs3 xt0 xt1 xt2 xt3 fs_5 ft_5 bel5 hC5
  replace hK0 := hK0.out
  replace hK1 := hK1.out
  replace hK2 := hK2.out
  replace hK3 := hK3.out
  replace hK4 := hK4.out
  replace hK5 := hK5.out
  replace p_le := p_le.out
  replace p_ge := p_ge.out
  replace p_lt := p_lt.out
  replace p_gt := p_gt.out
  replace p_eq := p_eq.out
  replace p_ne := p_ne.out
  replace bel6 := bel6.out
  replace zz1 := zz1.out
  replace zz2 := zz2.out
  replace zz3 := zz3.out
  replace zz4 := zz4.out
  replace zz5 := zz5.out
  have gq := q1.out
  have g6 : Below Y6.heap.size Y6 (Y6.alloc (.cells #[.int .i64 0, .slice none 0 0, .slice none 0 0, .int .i64 0, .int .i64 0] 26)) := bal _ _
  have g5 : Below Y5.heap.size Y5 (Y6.alloc (.cells #[.int .i64 0, .slice none 0 0, .slice none 0 0, .int .i64 0, .int .i64 0] 26)) := bt2 (bal Y5 (.cells #[.int .i64 0, .slice none 0 0, .slice none 0 0, .int .i64 0, .int .i64 0] 26)) hK5
  have g4 : Below Y4.heap.size Y4 (Y5.alloc (.cells #[.int .i64 0, .slice none 0 0, .slice none 0 0, .int .i64 0, .int .i64 0] 26)) := bt2 (bal Y4 (.cells #[.int .i64 0, .slice none 0 0, .slice none 0 0, .int .i64 0, .int .i64 0] 26)) hK4
  replace g4 := bt2 g4 hK5
  have g3 : Below Y3.heap.size Y3 (Y4.alloc (.cells #[.int .i64 0, .slice none 0 0, .slice none 0 0, .int .i64 0, .int .i64 0] 26)) := bt2 (bal Y3 (.cells #[.int .i64 0, .slice none 0 0, .slice none 0 0, .int .i64 0, .int .i64 0] 26)) hK3
  replace g3 := bt2 g3 hK4
  replace g3 := bt2 g3 hK5
  have g2 : Below Y2.heap.size Y2 (Y3.alloc (.cells #[.int .i64 0, .slice none 0 0, .slice none 0 0, .int .i64 0, .int .i64 0] 26)) := bt2 (bal Y2 (.cells #[.int .i64 0, .slice none 0 0, .slice none 0 0, .int .i64 0, .int .i64 0] 26)) hK2
  replace g2 := bt2 g2 hK3
  replace g2 := bt2 g2 hK4
  replace g2 := bt2 g2 hK5
  have g1 : Below Y1.heap.size Y1 (Y2.alloc (.cells #[.int .i64 0, .slice none 0 0, .slice none 0 0, .int .i64 0, .int .i64 0] 26)) := bt2 (bal Y1 (.cells #[.int .i64 0, .slice none 0 0, .slice none 0 0, .int .i64 0, .int .i64 0] 26)) hK1
  replace g1 := bt2 g1 hK2
  replace g1 := bt2 g1 hK3
  replace g1 := bt2 g1 hK4
  replace g1 := bt2 g1 hK5
  clear fs_6 ft_6 HRS HRT
  have wlt : w.heap.size + 2 ≤ Y6.heap.size := q6.out
  clear hK0 hK1 hK2 hK3 hK4 hK5
  have nx := H_nx.out
  have ny := H_ny.out
  have exx := H_exx.out
  have nx2 := H_nx2.out
  have ny2 := H_ny2.out
  have acc0 := Below.refl ((Y6.alloc (.cells #[.int .i64 0, .slice none 0 0, .slice none 0 0, .int .i64 0, .int .i64 0] 26))).heap.size ((Y6.alloc (.cells #[.int .i64 0, .slice none 0 0, .slice none 0 0, .int .i64 0, .int .i64 0] 26)))
  have f_eq0 : (Y6.alloc (.cells #[.int .i64 0, .slice none 0 0, .slice none 0 0, .int .i64 0, .int .i64 0] 26)).cell? ⟨Y5.heap.size, 0, none⟩ = some (.int .i64 0) := (txcell (vs := #[.int .i64 0, .slice none 0 0, .slice none 0 0, .int .i64 0, .int .i64 0]) p_eq 0 _ rfl).1
  have f_eq1 : (Y6.alloc (.cells #[.int .i64 0, .slice none 0 0, .slice none 0 0, .int .i64 0, .int .i64 0] 26)).cell? ⟨Y5.heap.size, 1, none⟩ = some (.slice none 0 0) := (txcell (vs := #[.int .i64 0, .slice none 0 0, .slice none 0 0, .int .i64 0, .int .i64 0]) p_eq 1 _ rfl).1
  have f_eq2 : (Y6.alloc (.cells #[.int .i64 0, .slice none 0 0, .slice none 0 0, .int .i64 0, .int .i64 0] 26)).cell? ⟨Y5.heap.size, 2, none⟩ = some (.slice none 0 0) := (txcell (vs := #[.int .i64 0, .slice none 0 0, .slice none 0 0, .int .i64 0, .int .i64 0]) p_eq 2 _ rfl).1
  have f_eq3 : (Y6.alloc (.cells #[.int .i64 0, .slice none 0 0, .slice none 0 0, .int .i64 0, .int .i64 0] 26)).cell? ⟨Y5.heap.size, 3, none⟩ = some (.int .i64 0) := (txcell (vs := #[.int .i64 0, .slice none 0 0, .slice none 0 0, .int .i64 0, .int .i64 0]) p_eq 3 _ rfl).1
  have f_eq4 : (Y6.alloc (.cells #[.int .i64 0, .slice none 0 0, .slice none 0 0, .int .i64 0, .int .i64 0] 26)).cell? ⟨Y5.heap.size, 4, none⟩ = some (.int .i64 0) := (txcell (vs := #[.int .i64 0, .slice none 0 0, .slice none 0 0, .int .i64 0, .int .i64 0]) p_eq 4 _ rfl).1
  have f_ne0 : (Y6.alloc (.cells #[.int .i64 0, .slice none 0 0, .slice none 0 0, .int .i64 0, .int .i64 0] 26)).cell? ⟨Y6.heap.size, 0, none⟩ = some (.int .i64 0) := (txcell (vs := #[.int .i64 0, .slice none 0 0, .slice none 0 0, .int .i64 0, .int .i64 0]) p_ne 0 _ rfl).1
  have f_ne1 : (Y6.alloc (.cells #[.int .i64 0, .slice none 0 0, .slice none 0 0, .int .i64 0, .int .i64 0] 26)).cell? ⟨Y6.heap.size, 1, none⟩ = some (.slice none 0 0) := (txcell (vs := #[.int .i64 0, .slice none 0 0, .slice none 0 0, .int .i64 0, .int .i64 0]) p_ne 1 _ rfl).1
  have f_ne2 : (Y6.alloc (.cells #[.int .i64 0, .slice none 0 0, .slice none 0 0, .int .i64 0, .int .i64 0] 26)).cell? ⟨Y6.heap.size, 2, none⟩ = some (.slice none 0 0) := (txcell (vs := #[.int .i64 0, .slice none 0 0, .slice none 0 0, .int .i64 0, .int .i64 0]) p_ne 2 _ rfl).1
  have f_ne3 : (Y6.alloc (.cells #[.int .i64 0, .slice none 0 0, .slice none 0 0, .int .i64 0, .int .i64 0] 26)).cell? ⟨Y6.heap.size, 3, none⟩ = some (.int .i64 0) := (txcell (vs := #[.int .i64 0, .slice none 0 0, .slice none 0 0, .int .i64 0, .int .i64 0]) p_ne 3 _ rfl).1
  have f_ne4 : (Y6.alloc (.cells #[.int .i64 0, .slice none 0 0, .slice none 0 0, .int .i64 0, .int .i64 0] 26)).cell? ⟨Y6.heap.size, 4, none⟩ = some (.int .i64 0) := (txcell (vs := #[.int .i64 0, .slice none 0 0, .slice none 0 0, .int .i64 0, .int .i64 0]) p_ne 4 _ rfl).1
  have NY := mkHid (normals_yes 0 0 0 [] [] none none none none 0 0 0 0 0 0 0 0 (Y6.alloc (.cells #[.int .i64 0, .slice none 0 0, .slice none 0 0, .int .i64 0, .int .i64 0] 26)) (rds_nil _) (rds_nil _) (rdz_nil _) (rdz_nil _))
  go_wp2_with (fail)
  refine NY.out.mono ?_
  rintro e u1 ⟨rfl, hU1⟩
  have acc1 := bt2 acc0 hU1
  replace p_le := p_le.keep hU1
  replace p_ge := p_ge.keep hU1
  replace p_lt := p_lt.keep hU1
  replace p_gt := p_gt.keep hU1
  replace p_eq := p_eq.keep hU1
  replace p_ne := p_ne.keep hU1
  clear NY f_eq0 f_eq1 f_eq2 f_eq3 f_eq4 f_ne0 f_ne1 f_ne2 f_ne3 f_ne4
  go_wp2_with (fail)
  go_ret
  exact ⟨rfl, bt2 bel6 acc1⟩
end Go.Proofs.Ytiapkblebbcfbaa.Gl
/- NormTurns: the walk. -/
namespace Go.Proofs.Ytiapkblebbcfbaa.Gl
open Go.RowKit
set_option linter.unusedVariables false
set_option linter.unusedSimpArgs false

set_option maxRecDepth 100000 in
set_option maxHeartbeats 8000000 in
theorem turns_eo (s t : Tm) (v0 v1 : Value) (w : World) (hs : TmV w s v0) (ht : TmV w t v1) (x y : Nat) (hx : x ≠ 0) (hy : y ≠ 0) (N : Nr) (h9 : atm (tA 9 s t) = .er x) (h11 : atm (tA 11 t s) = .er y) (h13 : atm (tA 13 s t) = .er x) (h14 : atm (tA 14 s t) = .er x) (h10 : atm (tA 10 s t) = .ok N) (h12 : atm (tA 12 t s) = .ok N) :
    Calls Try.prog 6 #[v0, v1] w fun e w' => e = .returned (.bool true) ∧ Below w.heap.size w w' := by
  obtain ⟨c0, c1, c2, c3, rfl, hrs⟩ := hs
  obtain ⟨d0, d1, d2, d3, rfl, hrt⟩ := ht
  have nx : ((x : Int) == 0) = false := by rw [beq_eq_false_iff_ne]; omega
  have ny : ((y : Int) == 0) = false := by rw [beq_eq_false_iff_ne]; omega
  have exx : ((x : Int) == (x : Int)) = true := by simp
  have hR1 := rb_new w #[c0, c1, c2, c3] 35
  have hB1 := bal w (.cells #[c0, c1, c2, c3] 35)
  have hs1 : (w.alloc (.cells #[c0, c1, c2, c3] 35)).heap.size = w.heap.size + 1 := by simp
  have hR2 := rb_new (w.alloc (.cells #[c0, c1, c2, c3] 35)) #[d0, d1, d2, d3] 35
  rw [hs1] at hR2
  have hR1' := hR1.keep (bal _ (.cells #[d0, d1, d2, d3] 35))
  have hB2 := bt2 hB1 (bal _ (.cells #[d0, d1, d2, d3] 35))
  have FX := mkHid (nfixed_at ((w.alloc (.cells #[c0, c1, c2, c3] 35)).alloc (.cells #[d0, d1, d2, d3] 35)))
  clear hR1 hB1 hs1
  go_enter Try.func6, Try.ntmps6
  go_wp2_with (fail)
  refine FX.out.mono ?_
  rintro e w1 ⟨rfl, hB3⟩
  have bel0 := mkHid (bt2 hB2 hB3)
  have fs_0 := mkHid (hR1'.keep hB3)
  have ft_0 := mkHid (hR2.keep hB3)
  have HRS := mkHid hrs
  have HRT := mkHid hrt
  have HH9 := mkHid h9
  have HH10 := mkHid h10
  have HH11 := mkHid h11
  have HH12 := mkHid h12
  have HH13 := mkHid h13
  have HH14 := mkHid h14
  have H_nx := mkHid nx
  have H_ny := mkHid ny
  have H_exx := mkHid exx
  clear hrs hrt h9 h10 h11 h12 h13 h14 nx ny exx
  clear FX hR1' hR2 hB2 hB3
  have q0 : Hid (w.heap.size + 2 ≤ w1.heap.size) := (Array.getElem?_eq_some_iff.1 ft_0.out).1
  have xs0 : (w1).cell? ⟨w.heap.size, 0, none⟩ = some c0 := (txcell (vs := #[c0, c1, c2, c3]) fs_0.out 0 _ rfl).1
  have xt0 : (w1).cell? ⟨w.heap.size + 1, 0, none⟩ = some d0 := (txcell (vs := #[d0, d1, d2, d3]) ft_0.out 0 _ rfl).1
  have xs1 : (w1).cell? ⟨w.heap.size, 1, none⟩ = some c1 := (txcell (vs := #[c0, c1, c2, c3]) fs_0.out 1 _ rfl).1
  have xt1 : (w1).cell? ⟨w.heap.size + 1, 1, none⟩ = some d1 := (txcell (vs := #[d0, d1, d2, d3]) ft_0.out 1 _ rfl).1
  have xs2 : (w1).cell? ⟨w.heap.size, 2, none⟩ = some c2 := (txcell (vs := #[c0, c1, c2, c3]) fs_0.out 2 _ rfl).1
  have xt2 : (w1).cell? ⟨w.heap.size + 1, 2, none⟩ = some d2 := (txcell (vs := #[d0, d1, d2, d3]) ft_0.out 2 _ rfl).1
  have xs3 : (w1).cell? ⟨w.heap.size, 3, none⟩ = some c3 := (txcell (vs := #[c0, c1, c2, c3]) fs_0.out 3 _ rfl).1
  have xt3 : (w1).cell? ⟨w.heap.size + 1, 3, none⟩ = some d3 := (txcell (vs := #[d0, d1, d2, d3]) ft_0.out 3 _ rfl).1
  have AC := mkHid (atom_any _ (tA 9 s t) _ _ (mk_atom (W := w1) (T := 35) (RdT.kept bel0.out s _ _ _ _ HRS.out) (RdT.kept bel0.out t _ _ _ _ HRT.out) 9 ⟨by decide, by decide⟩ rfl) (Below.refl _ _))
  rw [HH9.out] at AC
  have wlt : w.heap.size + 2 ≤ w1.heap.size := q0.out
  go_wp2_with (fail)
  refine AC.out.mono ?_
  rintro e Y1 ⟨r0, rfl, hV, hC0⟩
  have hv : r0 = .tuple #[.agg zN, .int .i64 (x : Nat)] := hV
  subst hv
  clear hV
  have hK0 := mkHid (bt2 (bt2 (bal (w1) (.cells #[c0, c1, c2, c3, d0, d1, d2, d3] 35)) hC0) (bal Y1 (.cells #[.int .i64 0, .slice none 0 0, .slice none 0 0, .int .i64 0, .int .i64 0] 26)))
  have bel1 := mkHid (bt2 bel0.out hK0.out)
  have fs_1 := mkHid (fs_0.out.keep hK0.out)
  have ft_1 := mkHid (ft_0.out.keep hK0.out)
  have p_le := mkHid (rb_new Y1 #[.int .i64 0, .slice none 0 0, .slice none 0 0, .int .i64 0, .int .i64 0] 26)
  have q1 : Hid (w.heap.size + 2 ≤ Y1.heap.size) := by have h1 := hC0.size; have h2 := q0.out; simp only [World.size_alloc] at h1; show _ ≤ _; omega
  clear AC wlt xs0 xs1 xs2 xs3 xt0 xt1 xt2 xt3 fs_0 ft_0 bel0 hC0
  have xs0 : ((Y1.alloc (.cells #[.int .i64 0, .slice none 0 0, .slice none 0 0, .int .i64 0, .int .i64 0] 26))).cell? ⟨w.heap.size, 0, none⟩ = some c0 := (txcell (vs := #[c0, c1, c2, c3]) fs_1.out 0 _ rfl).1
  have xt0 : ((Y1.alloc (.cells #[.int .i64 0, .slice none 0 0, .slice none 0 0, .int .i64 0, .int .i64 0] 26))).cell? ⟨w.heap.size + 1, 0, none⟩ = some d0 := (txcell (vs := #[d0, d1, d2, d3]) ft_1.out 0 _ rfl).1
  have xs1 : ((Y1.alloc (.cells #[.int .i64 0, .slice none 0 0, .slice none 0 0, .int .i64 0, .int .i64 0] 26))).cell? ⟨w.heap.size, 1, none⟩ = some c1 := (txcell (vs := #[c0, c1, c2, c3]) fs_1.out 1 _ rfl).1
  have xt1 : ((Y1.alloc (.cells #[.int .i64 0, .slice none 0 0, .slice none 0 0, .int .i64 0, .int .i64 0] 26))).cell? ⟨w.heap.size + 1, 1, none⟩ = some d1 := (txcell (vs := #[d0, d1, d2, d3]) ft_1.out 1 _ rfl).1
  have xs2 : ((Y1.alloc (.cells #[.int .i64 0, .slice none 0 0, .slice none 0 0, .int .i64 0, .int .i64 0] 26))).cell? ⟨w.heap.size, 2, none⟩ = some c2 := (txcell (vs := #[c0, c1, c2, c3]) fs_1.out 2 _ rfl).1
  have xt2 : ((Y1.alloc (.cells #[.int .i64 0, .slice none 0 0, .slice none 0 0, .int .i64 0, .int .i64 0] 26))).cell? ⟨w.heap.size + 1, 2, none⟩ = some d2 := (txcell (vs := #[d0, d1, d2, d3]) ft_1.out 2 _ rfl).1
  have xs3 : ((Y1.alloc (.cells #[.int .i64 0, .slice none 0 0, .slice none 0 0, .int .i64 0, .int .i64 0] 26))).cell? ⟨w.heap.size, 3, none⟩ = some c3 := (txcell (vs := #[c0, c1, c2, c3]) fs_1.out 3 _ rfl).1
  have xt3 : ((Y1.alloc (.cells #[.int .i64 0, .slice none 0 0, .slice none 0 0, .int .i64 0, .int .i64 0] 26))).cell? ⟨w.heap.size + 1, 3, none⟩ = some d3 := (txcell (vs := #[d0, d1, d2, d3]) ft_1.out 3 _ rfl).1
  have AC := mkHid (atom_any _ (tA 11 t s) _ _ (mk_atom (W := (Y1.alloc (.cells #[.int .i64 0, .slice none 0 0, .slice none 0 0, .int .i64 0, .int .i64 0] 26))) (T := 35) (RdT.kept bel1.out t _ _ _ _ HRT.out) (RdT.kept bel1.out s _ _ _ _ HRS.out) 11 ⟨by decide, by decide⟩ (show _ = Y1.heap.size + 1 by simp)) (Below.refl _ _))
  rw [HH11.out] at AC
  have wlt : w.heap.size + 2 ≤ Y1.heap.size := q1.out
  go_wp2_with (fail)
  refine AC.out.mono ?_
  rintro e Y2 ⟨r1, rfl, hV, hC1⟩
  have hv : r1 = .tuple #[.agg zN, .int .i64 (y : Nat)] := hV
  subst hv
  clear hV
  have hK1 := mkHid (bt2 (bt2 (bal ((Y1.alloc (.cells #[.int .i64 0, .slice none 0 0, .slice none 0 0, .int .i64 0, .int .i64 0] 26))) (.cells #[d0, d1, d2, d3, c0, c1, c2, c3] 35)) hC1) (bal Y2 (.cells #[.int .i64 0, .slice none 0 0, .slice none 0 0, .int .i64 0, .int .i64 0] 26)))
  have bel2 := mkHid (bt2 bel1.out hK1.out)
  have fs_2 := mkHid (fs_1.out.keep hK1.out)
  have ft_2 := mkHid (ft_1.out.keep hK1.out)
  replace p_le := mkHid (p_le.out.keep hK1.out)
  have p_ge := mkHid (rb_new Y2 #[.int .i64 0, .slice none 0 0, .slice none 0 0, .int .i64 0, .int .i64 0] 26)
  have q2 : Hid (w.heap.size + 2 ≤ Y2.heap.size) := by have h1 := hC1.size; have h2 := q1.out; simp only [World.size_alloc] at h1; show _ ≤ _; omega
  have zz1 : Hid (Y1.heap.size + 1 ≤ Y2.heap.size) := by have h1 := hC1.size; simp only [World.size_alloc] at h1; show _ ≤ _; omega
  clear AC wlt xs0 xs1 xs2 xs3 xt0 xt1 xt2 xt3 fs_1 ft_1 bel1 hC1
  have xs0 : ((Y2.alloc (.cells #[.int .i64 0, .slice none 0 0, .slice none 0 0, .int .i64 0, .int .i64 0] 26))).cell? ⟨w.heap.size, 0, none⟩ = some c0 := (txcell (vs := #[c0, c1, c2, c3]) fs_2.out 0 _ rfl).1
  have xt0 : ((Y2.alloc (.cells #[.int .i64 0, .slice none 0 0, .slice none 0 0, .int .i64 0, .int .i64 0] 26))).cell? ⟨w.heap.size + 1, 0, none⟩ = some d0 := (txcell (vs := #[d0, d1, d2, d3]) ft_2.out 0 _ rfl).1
  have xs1 : ((Y2.alloc (.cells #[.int .i64 0, .slice none 0 0, .slice none 0 0, .int .i64 0, .int .i64 0] 26))).cell? ⟨w.heap.size, 1, none⟩ = some c1 := (txcell (vs := #[c0, c1, c2, c3]) fs_2.out 1 _ rfl).1
  have xt1 : ((Y2.alloc (.cells #[.int .i64 0, .slice none 0 0, .slice none 0 0, .int .i64 0, .int .i64 0] 26))).cell? ⟨w.heap.size + 1, 1, none⟩ = some d1 := (txcell (vs := #[d0, d1, d2, d3]) ft_2.out 1 _ rfl).1
  have xs2 : ((Y2.alloc (.cells #[.int .i64 0, .slice none 0 0, .slice none 0 0, .int .i64 0, .int .i64 0] 26))).cell? ⟨w.heap.size, 2, none⟩ = some c2 := (txcell (vs := #[c0, c1, c2, c3]) fs_2.out 2 _ rfl).1
  have xt2 : ((Y2.alloc (.cells #[.int .i64 0, .slice none 0 0, .slice none 0 0, .int .i64 0, .int .i64 0] 26))).cell? ⟨w.heap.size + 1, 2, none⟩ = some d2 := (txcell (vs := #[d0, d1, d2, d3]) ft_2.out 2 _ rfl).1
  have xs3 : ((Y2.alloc (.cells #[.int .i64 0, .slice none 0 0, .slice none 0 0, .int .i64 0, .int .i64 0] 26))).cell? ⟨w.heap.size, 3, none⟩ = some c3 := (txcell (vs := #[c0, c1, c2, c3]) fs_2.out 3 _ rfl).1
  have xt3 : ((Y2.alloc (.cells #[.int .i64 0, .slice none 0 0, .slice none 0 0, .int .i64 0, .int .i64 0] 26))).cell? ⟨w.heap.size + 1, 3, none⟩ = some d3 := (txcell (vs := #[d0, d1, d2, d3]) ft_2.out 3 _ rfl).1
  have AC := mkHid (atom_any _ (tA 10 s t) _ _ (mk_atom (W := (Y2.alloc (.cells #[.int .i64 0, .slice none 0 0, .slice none 0 0, .int .i64 0, .int .i64 0] 26))) (T := 35) (RdT.kept bel2.out s _ _ _ _ HRS.out) (RdT.kept bel2.out t _ _ _ _ HRT.out) 10 ⟨by decide, by decide⟩ (show _ = Y2.heap.size + 1 by simp)) (Below.refl _ _))
  rw [HH10.out] at AC
  have wlt : w.heap.size + 2 ≤ Y2.heap.size := q2.out
  go_wp2_with (fail)
  refine AC.out.mono ?_
  rintro e Y3 ⟨r2, rfl, hV, hC2⟩
  obtain ⟨no2, co2, n2, k2, o2, d2', rfl, hM2, hN2, hO2⟩ := hV
  have hK2 := mkHid (bt2 (bt2 (bal ((Y2.alloc (.cells #[.int .i64 0, .slice none 0 0, .slice none 0 0, .int .i64 0, .int .i64 0] 26))) (.cells #[c0, c1, c2, c3, d0, d1, d2, d3] 35)) hC2) (bal Y3 (.cells #[.int .i64 N.kd, .slice no2 n2 k2, .slice co2 o2 d2', .int .i64 N.bd, .int .i64 N.md] 26)))
  have bel3 := mkHid (bt2 bel2.out hK2.out)
  have fs_3 := mkHid (fs_2.out.keep hK2.out)
  have ft_3 := mkHid (ft_2.out.keep hK2.out)
  replace p_le := mkHid (p_le.out.keep hK2.out)
  replace p_ge := mkHid (p_ge.out.keep hK2.out)
  have p_lt := mkHid (rb_new Y3 #[.int .i64 N.kd, .slice no2 n2 k2, .slice co2 o2 d2', .int .i64 N.bd, .int .i64 N.md] 26)
  have q3 : Hid (w.heap.size + 2 ≤ Y3.heap.size) := by have h1 := hC2.size; have h2 := q2.out; simp only [World.size_alloc] at h1; show _ ≤ _; omega
  have zz2 : Hid (Y2.heap.size + 1 ≤ Y3.heap.size) := by have h1 := hC2.size; simp only [World.size_alloc] at h1; show _ ≤ _; omega
  clear AC wlt xs0 xs1 xs2 xs3 xt0 xt1 xt2 xt3 fs_2 ft_2 bel2 hC2
  replace hM2 := mkHid hM2
  replace hN2 := mkHid hN2
  replace hO2 := mkHid hO2
  have xs0 : ((Y3.alloc (.cells #[.int .i64 N.kd, .slice no2 n2 k2, .slice co2 o2 d2', .int .i64 N.bd, .int .i64 N.md] 26))).cell? ⟨w.heap.size, 0, none⟩ = some c0 := (txcell (vs := #[c0, c1, c2, c3]) fs_3.out 0 _ rfl).1
  have xt0 : ((Y3.alloc (.cells #[.int .i64 N.kd, .slice no2 n2 k2, .slice co2 o2 d2', .int .i64 N.bd, .int .i64 N.md] 26))).cell? ⟨w.heap.size + 1, 0, none⟩ = some d0 := (txcell (vs := #[d0, d1, d2, d3]) ft_3.out 0 _ rfl).1
  have xs1 : ((Y3.alloc (.cells #[.int .i64 N.kd, .slice no2 n2 k2, .slice co2 o2 d2', .int .i64 N.bd, .int .i64 N.md] 26))).cell? ⟨w.heap.size, 1, none⟩ = some c1 := (txcell (vs := #[c0, c1, c2, c3]) fs_3.out 1 _ rfl).1
  have xt1 : ((Y3.alloc (.cells #[.int .i64 N.kd, .slice no2 n2 k2, .slice co2 o2 d2', .int .i64 N.bd, .int .i64 N.md] 26))).cell? ⟨w.heap.size + 1, 1, none⟩ = some d1 := (txcell (vs := #[d0, d1, d2, d3]) ft_3.out 1 _ rfl).1
  have xs2 : ((Y3.alloc (.cells #[.int .i64 N.kd, .slice no2 n2 k2, .slice co2 o2 d2', .int .i64 N.bd, .int .i64 N.md] 26))).cell? ⟨w.heap.size, 2, none⟩ = some c2 := (txcell (vs := #[c0, c1, c2, c3]) fs_3.out 2 _ rfl).1
  have xt2 : ((Y3.alloc (.cells #[.int .i64 N.kd, .slice no2 n2 k2, .slice co2 o2 d2', .int .i64 N.bd, .int .i64 N.md] 26))).cell? ⟨w.heap.size + 1, 2, none⟩ = some d2 := (txcell (vs := #[d0, d1, d2, d3]) ft_3.out 2 _ rfl).1
  have xs3 : ((Y3.alloc (.cells #[.int .i64 N.kd, .slice no2 n2 k2, .slice co2 o2 d2', .int .i64 N.bd, .int .i64 N.md] 26))).cell? ⟨w.heap.size, 3, none⟩ = some c3 := (txcell (vs := #[c0, c1, c2, c3]) fs_3.out 3 _ rfl).1
  have xt3 : ((Y3.alloc (.cells #[.int .i64 N.kd, .slice no2 n2 k2, .slice co2 o2 d2', .int .i64 N.bd, .int .i64 N.md] 26))).cell? ⟨w.heap.size + 1, 3, none⟩ = some d3 := (txcell (vs := #[d0, d1, d2, d3]) ft_3.out 3 _ rfl).1
  have AC := mkHid (atom_any _ (tA 12 t s) _ _ (mk_atom (W := (Y3.alloc (.cells #[.int .i64 N.kd, .slice no2 n2 k2, .slice co2 o2 d2', .int .i64 N.bd, .int .i64 N.md] 26))) (T := 35) (RdT.kept bel3.out t _ _ _ _ HRT.out) (RdT.kept bel3.out s _ _ _ _ HRS.out) 12 ⟨by decide, by decide⟩ (show _ = Y3.heap.size + 1 by simp)) (Below.refl _ _))
  rw [HH12.out] at AC
  have wlt : w.heap.size + 2 ≤ Y3.heap.size := q3.out
  go_wp2_with (fail)
  refine AC.out.mono ?_
  rintro e Y4 ⟨r3, rfl, hV, hC3⟩
  obtain ⟨no3, co3, n3, k3, o3, d3', rfl, hM3, hN3, hO3⟩ := hV
  have hK3 := mkHid (bt2 (bt2 (bal ((Y3.alloc (.cells #[.int .i64 N.kd, .slice no2 n2 k2, .slice co2 o2 d2', .int .i64 N.bd, .int .i64 N.md] 26))) (.cells #[d0, d1, d2, d3, c0, c1, c2, c3] 35)) hC3) (bal Y4 (.cells #[.int .i64 N.kd, .slice no3 n3 k3, .slice co3 o3 d3', .int .i64 N.bd, .int .i64 N.md] 26)))
  have bel4 := mkHid (bt2 bel3.out hK3.out)
  have fs_4 := mkHid (fs_3.out.keep hK3.out)
  have ft_4 := mkHid (ft_3.out.keep hK3.out)
  replace p_le := mkHid (p_le.out.keep hK3.out)
  replace p_ge := mkHid (p_ge.out.keep hK3.out)
  replace p_lt := mkHid (p_lt.out.keep hK3.out)
  have p_gt := mkHid (rb_new Y4 #[.int .i64 N.kd, .slice no3 n3 k3, .slice co3 o3 d3', .int .i64 N.bd, .int .i64 N.md] 26)
  have q4 : Hid (w.heap.size + 2 ≤ Y4.heap.size) := by have h1 := hC3.size; have h2 := q3.out; simp only [World.size_alloc] at h1; show _ ≤ _; omega
  have zz3 : Hid (Y3.heap.size + 1 ≤ Y4.heap.size) := by have h1 := hC3.size; simp only [World.size_alloc] at h1; show _ ≤ _; omega
  clear AC wlt xs0 xs1 xs2 xs3 xt0 xt1 xt2 xt3 fs_3 ft_3 bel3 hC3
  replace hM3 := mkHid hM3
  replace hN3 := mkHid hN3
  replace hO3 := mkHid hO3
  have xs0 : ((Y4.alloc (.cells #[.int .i64 N.kd, .slice no3 n3 k3, .slice co3 o3 d3', .int .i64 N.bd, .int .i64 N.md] 26))).cell? ⟨w.heap.size, 0, none⟩ = some c0 := (txcell (vs := #[c0, c1, c2, c3]) fs_4.out 0 _ rfl).1
  have xt0 : ((Y4.alloc (.cells #[.int .i64 N.kd, .slice no3 n3 k3, .slice co3 o3 d3', .int .i64 N.bd, .int .i64 N.md] 26))).cell? ⟨w.heap.size + 1, 0, none⟩ = some d0 := (txcell (vs := #[d0, d1, d2, d3]) ft_4.out 0 _ rfl).1
  have xs1 : ((Y4.alloc (.cells #[.int .i64 N.kd, .slice no3 n3 k3, .slice co3 o3 d3', .int .i64 N.bd, .int .i64 N.md] 26))).cell? ⟨w.heap.size, 1, none⟩ = some c1 := (txcell (vs := #[c0, c1, c2, c3]) fs_4.out 1 _ rfl).1
  have xt1 : ((Y4.alloc (.cells #[.int .i64 N.kd, .slice no3 n3 k3, .slice co3 o3 d3', .int .i64 N.bd, .int .i64 N.md] 26))).cell? ⟨w.heap.size + 1, 1, none⟩ = some d1 := (txcell (vs := #[d0, d1, d2, d3]) ft_4.out 1 _ rfl).1
  have xs2 : ((Y4.alloc (.cells #[.int .i64 N.kd, .slice no3 n3 k3, .slice co3 o3 d3', .int .i64 N.bd, .int .i64 N.md] 26))).cell? ⟨w.heap.size, 2, none⟩ = some c2 := (txcell (vs := #[c0, c1, c2, c3]) fs_4.out 2 _ rfl).1
  have xt2 : ((Y4.alloc (.cells #[.int .i64 N.kd, .slice no3 n3 k3, .slice co3 o3 d3', .int .i64 N.bd, .int .i64 N.md] 26))).cell? ⟨w.heap.size + 1, 2, none⟩ = some d2 := (txcell (vs := #[d0, d1, d2, d3]) ft_4.out 2 _ rfl).1
  have xs3 : ((Y4.alloc (.cells #[.int .i64 N.kd, .slice no3 n3 k3, .slice co3 o3 d3', .int .i64 N.bd, .int .i64 N.md] 26))).cell? ⟨w.heap.size, 3, none⟩ = some c3 := (txcell (vs := #[c0, c1, c2, c3]) fs_4.out 3 _ rfl).1
  have xt3 : ((Y4.alloc (.cells #[.int .i64 N.kd, .slice no3 n3 k3, .slice co3 o3 d3', .int .i64 N.bd, .int .i64 N.md] 26))).cell? ⟨w.heap.size + 1, 3, none⟩ = some d3 := (txcell (vs := #[d0, d1, d2, d3]) ft_4.out 3 _ rfl).1
  have AC := mkHid (atom_any _ (tA 13 s t) _ _ (mk_atom (W := (Y4.alloc (.cells #[.int .i64 N.kd, .slice no3 n3 k3, .slice co3 o3 d3', .int .i64 N.bd, .int .i64 N.md] 26))) (T := 35) (RdT.kept bel4.out s _ _ _ _ HRS.out) (RdT.kept bel4.out t _ _ _ _ HRT.out) 13 ⟨by decide, by decide⟩ (show _ = Y4.heap.size + 1 by simp)) (Below.refl _ _))
  rw [HH13.out] at AC
  have wlt : w.heap.size + 2 ≤ Y4.heap.size := q4.out
  go_wp2_with (fail)
  refine AC.out.mono ?_
  rintro e Y5 ⟨r4, rfl, hV, hC4⟩
  have hv : r4 = .tuple #[.agg zN, .int .i64 (x : Nat)] := hV
  subst hv
  clear hV
  have hK4 := mkHid (bt2 (bt2 (bal ((Y4.alloc (.cells #[.int .i64 N.kd, .slice no3 n3 k3, .slice co3 o3 d3', .int .i64 N.bd, .int .i64 N.md] 26))) (.cells #[c0, c1, c2, c3, d0, d1, d2, d3] 35)) hC4) (bal Y5 (.cells #[.int .i64 0, .slice none 0 0, .slice none 0 0, .int .i64 0, .int .i64 0] 26)))
  have bel5 := mkHid (bt2 bel4.out hK4.out)
  have fs_5 := mkHid (fs_4.out.keep hK4.out)
  have ft_5 := mkHid (ft_4.out.keep hK4.out)
  replace p_le := mkHid (p_le.out.keep hK4.out)
  replace p_ge := mkHid (p_ge.out.keep hK4.out)
  replace p_lt := mkHid (p_lt.out.keep hK4.out)
  replace p_gt := mkHid (p_gt.out.keep hK4.out)
  have p_eq := mkHid (rb_new Y5 #[.int .i64 0, .slice none 0 0, .slice none 0 0, .int .i64 0, .int .i64 0] 26)
  have q5 : Hid (w.heap.size + 2 ≤ Y5.heap.size) := by have h1 := hC4.size; have h2 := q4.out; simp only [World.size_alloc] at h1; show _ ≤ _; omega
  have zz4 : Hid (Y4.heap.size + 1 ≤ Y5.heap.size) := by have h1 := hC4.size; simp only [World.size_alloc] at h1; show _ ≤ _; omega
  clear AC wlt xs0 xs1 xs2 xs3 xt0 xt1 xt2 xt3 fs_4 ft_4 bel4 hC4
  have xs0 : ((Y5.alloc (.cells #[.int .i64 0, .slice none 0 0, .slice none 0 0, .int .i64 0, .int .i64 0] 26))).cell? ⟨w.heap.size, 0, none⟩ = some c0 := (txcell (vs := #[c0, c1, c2, c3]) fs_5.out 0 _ rfl).1
  have xt0 : ((Y5.alloc (.cells #[.int .i64 0, .slice none 0 0, .slice none 0 0, .int .i64 0, .int .i64 0] 26))).cell? ⟨w.heap.size + 1, 0, none⟩ = some d0 := (txcell (vs := #[d0, d1, d2, d3]) ft_5.out 0 _ rfl).1
  have xs1 : ((Y5.alloc (.cells #[.int .i64 0, .slice none 0 0, .slice none 0 0, .int .i64 0, .int .i64 0] 26))).cell? ⟨w.heap.size, 1, none⟩ = some c1 := (txcell (vs := #[c0, c1, c2, c3]) fs_5.out 1 _ rfl).1
  have xt1 : ((Y5.alloc (.cells #[.int .i64 0, .slice none 0 0, .slice none 0 0, .int .i64 0, .int .i64 0] 26))).cell? ⟨w.heap.size + 1, 1, none⟩ = some d1 := (txcell (vs := #[d0, d1, d2, d3]) ft_5.out 1 _ rfl).1
  have xs2 : ((Y5.alloc (.cells #[.int .i64 0, .slice none 0 0, .slice none 0 0, .int .i64 0, .int .i64 0] 26))).cell? ⟨w.heap.size, 2, none⟩ = some c2 := (txcell (vs := #[c0, c1, c2, c3]) fs_5.out 2 _ rfl).1
  have xt2 : ((Y5.alloc (.cells #[.int .i64 0, .slice none 0 0, .slice none 0 0, .int .i64 0, .int .i64 0] 26))).cell? ⟨w.heap.size + 1, 2, none⟩ = some d2 := (txcell (vs := #[d0, d1, d2, d3]) ft_5.out 2 _ rfl).1
  have xs3 : ((Y5.alloc (.cells #[.int .i64 0, .slice none 0 0, .slice none 0 0, .int .i64 0, .int .i64 0] 26))).cell? ⟨w.heap.size, 3, none⟩ = some c3 := (txcell (vs := #[c0, c1, c2, c3]) fs_5.out 3 _ rfl).1
  have xt3 : ((Y5.alloc (.cells #[.int .i64 0, .slice none 0 0, .slice none 0 0, .int .i64 0, .int .i64 0] 26))).cell? ⟨w.heap.size + 1, 3, none⟩ = some d3 := (txcell (vs := #[d0, d1, d2, d3]) ft_5.out 3 _ rfl).1
  have AC := mkHid (atom_any _ (tA 14 s t) _ _ (mk_atom (W := (Y5.alloc (.cells #[.int .i64 0, .slice none 0 0, .slice none 0 0, .int .i64 0, .int .i64 0] 26))) (T := 35) (RdT.kept bel5.out s _ _ _ _ HRS.out) (RdT.kept bel5.out t _ _ _ _ HRT.out) 14 ⟨by decide, by decide⟩ (show _ = Y5.heap.size + 1 by simp)) (Below.refl _ _))
  rw [HH14.out] at AC
  have wlt : w.heap.size + 2 ≤ Y5.heap.size := q5.out
  go_wp2_with (fail)
  refine AC.out.mono ?_
  rintro e Y6 ⟨r5, rfl, hV, hC5⟩
  have hv : r5 = .tuple #[.agg zN, .int .i64 (x : Nat)] := hV
  subst hv
  clear hV
  have hK5 := mkHid (bt2 (bt2 (bal ((Y5.alloc (.cells #[.int .i64 0, .slice none 0 0, .slice none 0 0, .int .i64 0, .int .i64 0] 26))) (.cells #[c0, c1, c2, c3, d0, d1, d2, d3] 35)) hC5) (bal Y6 (.cells #[.int .i64 0, .slice none 0 0, .slice none 0 0, .int .i64 0, .int .i64 0] 26)))
  have bel6 := mkHid (bt2 bel5.out hK5.out)
  have fs_6 := mkHid (fs_5.out.keep hK5.out)
  have ft_6 := mkHid (ft_5.out.keep hK5.out)
  replace p_le := mkHid (p_le.out.keep hK5.out)
  replace p_ge := mkHid (p_ge.out.keep hK5.out)
  replace p_lt := mkHid (p_lt.out.keep hK5.out)
  replace p_gt := mkHid (p_gt.out.keep hK5.out)
  replace p_eq := mkHid (p_eq.out.keep hK5.out)
  have p_ne := mkHid (rb_new Y6 #[.int .i64 0, .slice none 0 0, .slice none 0 0, .int .i64 0, .int .i64 0] 26)
  have q6 : Hid (w.heap.size + 2 ≤ Y6.heap.size) := by have h1 := hC5.size; have h2 := q5.out; simp only [World.size_alloc] at h1; show _ ≤ _; omega
  have zz5 : Hid (Y5.heap.size + 1 ≤ Y6.heap.size) := by have h1 := hC5.size; simp only [World.size_alloc] at h1; show _ ≤ _; omega
  clear AC wlt xs0 xs1 xs2 xs3 xt0 xt1 xt2 xt3 fs_5 ft_5 bel5 hC5
  replace hK0 := hK0.out
  replace hK1 := hK1.out
  replace hK2 := hK2.out
  replace hK3 := hK3.out
  replace hK4 := hK4.out
  replace hK5 := hK5.out
  replace p_le := p_le.out
  replace p_ge := p_ge.out
  replace p_lt := p_lt.out
  replace p_gt := p_gt.out
  replace p_eq := p_eq.out
  replace p_ne := p_ne.out
  replace bel6 := bel6.out
  replace hM2 := hM2.out
  replace hN2 := hN2.out
  replace hO2 := hO2.out
  replace hM3 := hM3.out
  replace hN3 := hN3.out
  replace hO3 := hO3.out
  replace zz1 := zz1.out
  replace zz2 := zz2.out
  replace zz3 := zz3.out
  replace zz4 := zz4.out
  replace zz5 := zz5.out
  have gq := q1.out
  have g6 : Below Y6.heap.size Y6 (Y6.alloc (.cells #[.int .i64 0, .slice none 0 0, .slice none 0 0, .int .i64 0, .int .i64 0] 26)) := bal _ _
  have g5 : Below Y5.heap.size Y5 (Y6.alloc (.cells #[.int .i64 0, .slice none 0 0, .slice none 0 0, .int .i64 0, .int .i64 0] 26)) := bt2 (bal Y5 (.cells #[.int .i64 0, .slice none 0 0, .slice none 0 0, .int .i64 0, .int .i64 0] 26)) hK5
  have g4 : Below Y4.heap.size Y4 (Y5.alloc (.cells #[.int .i64 0, .slice none 0 0, .slice none 0 0, .int .i64 0, .int .i64 0] 26)) := bt2 (bal Y4 (.cells #[.int .i64 N.kd, .slice no3 n3 k3, .slice co3 o3 d3', .int .i64 N.bd, .int .i64 N.md] 26)) hK4
  replace g4 := bt2 g4 hK5
  have g3 : Below Y3.heap.size Y3 (Y4.alloc (.cells #[.int .i64 N.kd, .slice no3 n3 k3, .slice co3 o3 d3', .int .i64 N.bd, .int .i64 N.md] 26)) := bt2 (bal Y3 (.cells #[.int .i64 N.kd, .slice no2 n2 k2, .slice co2 o2 d2', .int .i64 N.bd, .int .i64 N.md] 26)) hK3
  replace g3 := bt2 g3 hK4
  replace g3 := bt2 g3 hK5
  have g2 : Below Y2.heap.size Y2 (Y3.alloc (.cells #[.int .i64 N.kd, .slice no2 n2 k2, .slice co2 o2 d2', .int .i64 N.bd, .int .i64 N.md] 26)) := bt2 (bal Y2 (.cells #[.int .i64 0, .slice none 0 0, .slice none 0 0, .int .i64 0, .int .i64 0] 26)) hK2
  replace g2 := bt2 g2 hK3
  replace g2 := bt2 g2 hK4
  replace g2 := bt2 g2 hK5
  have g1 : Below Y1.heap.size Y1 (Y2.alloc (.cells #[.int .i64 0, .slice none 0 0, .slice none 0 0, .int .i64 0, .int .i64 0] 26)) := bt2 (bal Y1 (.cells #[.int .i64 0, .slice none 0 0, .slice none 0 0, .int .i64 0, .int .i64 0] 26)) hK1
  replace g1 := bt2 g1 hK2
  replace g1 := bt2 g1 hK3
  replace g1 := bt2 g1 hK4
  replace g1 := bt2 g1 hK5
  clear fs_6 ft_6 HRS HRT
  have wlt : w.heap.size + 2 ≤ Y6.heap.size := q6.out
  clear hK0 hK1 hK2 hK3 hK4 hK5
  have nx := H_nx.out
  have ny := H_ny.out
  have exx := H_exx.out
  have acc0 := Below.refl ((Y6.alloc (.cells #[.int .i64 0, .slice none 0 0, .slice none 0 0, .int .i64 0, .int .i64 0] 26))).heap.size ((Y6.alloc (.cells #[.int .i64 0, .slice none 0 0, .slice none 0 0, .int .i64 0, .int .i64 0] 26)))
  have f_eq0 : (Y6.alloc (.cells #[.int .i64 0, .slice none 0 0, .slice none 0 0, .int .i64 0, .int .i64 0] 26)).cell? ⟨Y5.heap.size, 0, none⟩ = some (.int .i64 0) := (txcell (vs := #[.int .i64 0, .slice none 0 0, .slice none 0 0, .int .i64 0, .int .i64 0]) p_eq 0 _ rfl).1
  have f_eq1 : (Y6.alloc (.cells #[.int .i64 0, .slice none 0 0, .slice none 0 0, .int .i64 0, .int .i64 0] 26)).cell? ⟨Y5.heap.size, 1, none⟩ = some (.slice none 0 0) := (txcell (vs := #[.int .i64 0, .slice none 0 0, .slice none 0 0, .int .i64 0, .int .i64 0]) p_eq 1 _ rfl).1
  have f_eq2 : (Y6.alloc (.cells #[.int .i64 0, .slice none 0 0, .slice none 0 0, .int .i64 0, .int .i64 0] 26)).cell? ⟨Y5.heap.size, 2, none⟩ = some (.slice none 0 0) := (txcell (vs := #[.int .i64 0, .slice none 0 0, .slice none 0 0, .int .i64 0, .int .i64 0]) p_eq 2 _ rfl).1
  have f_eq3 : (Y6.alloc (.cells #[.int .i64 0, .slice none 0 0, .slice none 0 0, .int .i64 0, .int .i64 0] 26)).cell? ⟨Y5.heap.size, 3, none⟩ = some (.int .i64 0) := (txcell (vs := #[.int .i64 0, .slice none 0 0, .slice none 0 0, .int .i64 0, .int .i64 0]) p_eq 3 _ rfl).1
  have f_eq4 : (Y6.alloc (.cells #[.int .i64 0, .slice none 0 0, .slice none 0 0, .int .i64 0, .int .i64 0] 26)).cell? ⟨Y5.heap.size, 4, none⟩ = some (.int .i64 0) := (txcell (vs := #[.int .i64 0, .slice none 0 0, .slice none 0 0, .int .i64 0, .int .i64 0]) p_eq 4 _ rfl).1
  have f_ne0 : (Y6.alloc (.cells #[.int .i64 0, .slice none 0 0, .slice none 0 0, .int .i64 0, .int .i64 0] 26)).cell? ⟨Y6.heap.size, 0, none⟩ = some (.int .i64 0) := (txcell (vs := #[.int .i64 0, .slice none 0 0, .slice none 0 0, .int .i64 0, .int .i64 0]) p_ne 0 _ rfl).1
  have f_ne1 : (Y6.alloc (.cells #[.int .i64 0, .slice none 0 0, .slice none 0 0, .int .i64 0, .int .i64 0] 26)).cell? ⟨Y6.heap.size, 1, none⟩ = some (.slice none 0 0) := (txcell (vs := #[.int .i64 0, .slice none 0 0, .slice none 0 0, .int .i64 0, .int .i64 0]) p_ne 1 _ rfl).1
  have f_ne2 : (Y6.alloc (.cells #[.int .i64 0, .slice none 0 0, .slice none 0 0, .int .i64 0, .int .i64 0] 26)).cell? ⟨Y6.heap.size, 2, none⟩ = some (.slice none 0 0) := (txcell (vs := #[.int .i64 0, .slice none 0 0, .slice none 0 0, .int .i64 0, .int .i64 0]) p_ne 2 _ rfl).1
  have f_ne3 : (Y6.alloc (.cells #[.int .i64 0, .slice none 0 0, .slice none 0 0, .int .i64 0, .int .i64 0] 26)).cell? ⟨Y6.heap.size, 3, none⟩ = some (.int .i64 0) := (txcell (vs := #[.int .i64 0, .slice none 0 0, .slice none 0 0, .int .i64 0, .int .i64 0]) p_ne 3 _ rfl).1
  have f_ne4 : (Y6.alloc (.cells #[.int .i64 0, .slice none 0 0, .slice none 0 0, .int .i64 0, .int .i64 0] 26)).cell? ⟨Y6.heap.size, 4, none⟩ = some (.int .i64 0) := (txcell (vs := #[.int .i64 0, .slice none 0 0, .slice none 0 0, .int .i64 0, .int .i64 0]) p_ne 4 _ rfl).1
  have NY := mkHid (normals_yes 0 0 0 [] [] none none none none 0 0 0 0 0 0 0 0 (Y6.alloc (.cells #[.int .i64 0, .slice none 0 0, .slice none 0 0, .int .i64 0, .int .i64 0] 26)) (rds_nil _) (rds_nil _) (rdz_nil _) (rdz_nil _))
  go_wp2_with (fail)
  refine NY.out.mono ?_
  rintro e u1 ⟨rfl, hU1⟩
  have acc1 := bt2 acc0 hU1
  replace p_le := p_le.keep hU1
  replace p_ge := p_ge.keep hU1
  replace p_lt := p_lt.keep hU1
  replace p_gt := p_gt.keep hU1
  replace p_eq := p_eq.keep hU1
  replace p_ne := p_ne.keep hU1
  clear NY f_eq0 f_eq1 f_eq2 f_eq3 f_eq4 f_ne0 f_ne1 f_ne2 f_ne3 f_ne4
  have f_lt0 : u1.cell? ⟨Y3.heap.size, 0, none⟩ = some (.int .i64 N.kd) := (txcell (vs := #[.int .i64 N.kd, .slice no2 n2 k2, .slice co2 o2 d2', .int .i64 N.bd, .int .i64 N.md]) p_lt 0 _ rfl).1
  have f_lt1 : u1.cell? ⟨Y3.heap.size, 1, none⟩ = some (.slice no2 n2 k2) := (txcell (vs := #[.int .i64 N.kd, .slice no2 n2 k2, .slice co2 o2 d2', .int .i64 N.bd, .int .i64 N.md]) p_lt 1 _ rfl).1
  have f_lt2 : u1.cell? ⟨Y3.heap.size, 2, none⟩ = some (.slice co2 o2 d2') := (txcell (vs := #[.int .i64 N.kd, .slice no2 n2 k2, .slice co2 o2 d2', .int .i64 N.bd, .int .i64 N.md]) p_lt 2 _ rfl).1
  have f_lt3 : u1.cell? ⟨Y3.heap.size, 3, none⟩ = some (.int .i64 N.bd) := (txcell (vs := #[.int .i64 N.kd, .slice no2 n2 k2, .slice co2 o2 d2', .int .i64 N.bd, .int .i64 N.md]) p_lt 3 _ rfl).1
  have f_lt4 : u1.cell? ⟨Y3.heap.size, 4, none⟩ = some (.int .i64 N.md) := (txcell (vs := #[.int .i64 N.kd, .slice no2 n2 k2, .slice co2 o2 d2', .int .i64 N.bd, .int .i64 N.md]) p_lt 4 _ rfl).1
  have f_gt0 : u1.cell? ⟨Y4.heap.size, 0, none⟩ = some (.int .i64 N.kd) := (txcell (vs := #[.int .i64 N.kd, .slice no3 n3 k3, .slice co3 o3 d3', .int .i64 N.bd, .int .i64 N.md]) p_gt 0 _ rfl).1
  have f_gt1 : u1.cell? ⟨Y4.heap.size, 1, none⟩ = some (.slice no3 n3 k3) := (txcell (vs := #[.int .i64 N.kd, .slice no3 n3 k3, .slice co3 o3 d3', .int .i64 N.bd, .int .i64 N.md]) p_gt 1 _ rfl).1
  have f_gt2 : u1.cell? ⟨Y4.heap.size, 2, none⟩ = some (.slice co3 o3 d3') := (txcell (vs := #[.int .i64 N.kd, .slice no3 n3 k3, .slice co3 o3 d3', .int .i64 N.bd, .int .i64 N.md]) p_gt 2 _ rfl).1
  have f_gt3 : u1.cell? ⟨Y4.heap.size, 3, none⟩ = some (.int .i64 N.bd) := (txcell (vs := #[.int .i64 N.kd, .slice no3 n3 k3, .slice co3 o3 d3', .int .i64 N.bd, .int .i64 N.md]) p_gt 3 _ rfl).1
  have f_gt4 : u1.cell? ⟨Y4.heap.size, 4, none⟩ = some (.int .i64 N.md) := (txcell (vs := #[.int .i64 N.kd, .slice no3 n3 k3, .slice co3 o3 d3', .int .i64 N.bd, .int .i64 N.md]) p_gt 4 _ rfl).1
  have NY := mkHid (normals_yes N.kd N.bd N.md _ _ no2 no3 co2 co3 n2 k2 o2 d2' n3 k3 o3 d3' u1 (hM2.ns.below (Nat.le_refl _) (bt2 g3 acc1)) (hM3.ns.below (Nat.le_refl _) (bt2 g4 acc1)) (hM2.cs.below (Nat.le_refl _) (bt2 g3 acc1)) (hM3.cs.below (Nat.le_refl _) (bt2 g4 acc1)))
  go_wp2_with (fail)
  refine NY.out.mono ?_
  rintro e u2 ⟨rfl, hU2⟩
  have acc2 := bt2 acc1 hU2
  replace p_le := p_le.keep hU2
  replace p_ge := p_ge.keep hU2
  replace p_lt := p_lt.keep hU2
  replace p_gt := p_gt.keep hU2
  replace p_eq := p_eq.keep hU2
  replace p_ne := p_ne.keep hU2
  clear NY f_lt0 f_lt1 f_lt2 f_lt3 f_lt4 f_gt0 f_gt1 f_gt2 f_gt3 f_gt4
  go_wp2_with (fail)
  go_ret
  exact ⟨rfl, bt2 bel6 acc2⟩
end Go.Proofs.Ytiapkblebbcfbaa.Gl
/- NormTurns: the walk. -/
namespace Go.Proofs.Ytiapkblebbcfbaa.Gl
open Go.RowKit
set_option linter.unusedVariables false
set_option linter.unusedSimpArgs false

set_option maxRecDepth 100000 in
set_option maxHeartbeats 8000000 in
theorem turns_oe (s t : Tm) (v0 v1 : Value) (w : World) (hs : TmV w s v0) (ht : TmV w t v1) (ns : List ByteArray) (cs : List Int) (k : Int) (x2 y2 : Nat) (hx2 : x2 ≠ 0) (hy2 : y2 ≠ 0) (h9 : atm (tA 9 s t) = .ok ⟨0, ns, cs, -k, 0⟩) (h11 : atm (tA 11 t s) = .ok ⟨0, ns, cs, -k, 0⟩) (h13 : atm (tA 13 s t) = .ok ⟨1, ns, cs, -k, 0⟩) (h14 : atm (tA 14 s t) = .ok ⟨1, ns, cs, -k, 0⟩) (h10 : atm (tA 10 s t) = .er x2) (h12 : atm (tA 12 t s) = .er y2) :
    Calls Try.prog 6 #[v0, v1] w fun e w' => e = .returned (.bool true) ∧ Below w.heap.size w w' := by
  obtain ⟨c0, c1, c2, c3, rfl, hrs⟩ := hs
  obtain ⟨d0, d1, d2, d3, rfl, hrt⟩ := ht
  have nx2 : ((x2 : Int) == 0) = false := by rw [beq_eq_false_iff_ne]; omega
  have ny2 : ((y2 : Int) == 0) = false := by rw [beq_eq_false_iff_ne]; omega
  have hR1 := rb_new w #[c0, c1, c2, c3] 35
  have hB1 := bal w (.cells #[c0, c1, c2, c3] 35)
  have hs1 : (w.alloc (.cells #[c0, c1, c2, c3] 35)).heap.size = w.heap.size + 1 := by simp
  have hR2 := rb_new (w.alloc (.cells #[c0, c1, c2, c3] 35)) #[d0, d1, d2, d3] 35
  rw [hs1] at hR2
  have hR1' := hR1.keep (bal _ (.cells #[d0, d1, d2, d3] 35))
  have hB2 := bt2 hB1 (bal _ (.cells #[d0, d1, d2, d3] 35))
  have FX := mkHid (nfixed_at ((w.alloc (.cells #[c0, c1, c2, c3] 35)).alloc (.cells #[d0, d1, d2, d3] 35)))
  clear hR1 hB1 hs1
  go_enter Try.func6, Try.ntmps6
  go_wp2_with (fail)
  refine FX.out.mono ?_
  rintro e w1 ⟨rfl, hB3⟩
  have bel0 := mkHid (bt2 hB2 hB3)
  have fs_0 := mkHid (hR1'.keep hB3)
  have ft_0 := mkHid (hR2.keep hB3)
  have HRS := mkHid hrs
  have HRT := mkHid hrt
  have HH9 := mkHid h9
  have HH10 := mkHid h10
  have HH11 := mkHid h11
  have HH12 := mkHid h12
  have HH13 := mkHid h13
  have HH14 := mkHid h14
  have H_nx2 := mkHid nx2
  have H_ny2 := mkHid ny2
  clear hrs hrt h9 h10 h11 h12 h13 h14 nx2 ny2
  clear FX hR1' hR2 hB2 hB3
  have q0 : Hid (w.heap.size + 2 ≤ w1.heap.size) := (Array.getElem?_eq_some_iff.1 ft_0.out).1
  have xs0 : (w1).cell? ⟨w.heap.size, 0, none⟩ = some c0 := (txcell (vs := #[c0, c1, c2, c3]) fs_0.out 0 _ rfl).1
  have xt0 : (w1).cell? ⟨w.heap.size + 1, 0, none⟩ = some d0 := (txcell (vs := #[d0, d1, d2, d3]) ft_0.out 0 _ rfl).1
  have xs1 : (w1).cell? ⟨w.heap.size, 1, none⟩ = some c1 := (txcell (vs := #[c0, c1, c2, c3]) fs_0.out 1 _ rfl).1
  have xt1 : (w1).cell? ⟨w.heap.size + 1, 1, none⟩ = some d1 := (txcell (vs := #[d0, d1, d2, d3]) ft_0.out 1 _ rfl).1
  have xs2 : (w1).cell? ⟨w.heap.size, 2, none⟩ = some c2 := (txcell (vs := #[c0, c1, c2, c3]) fs_0.out 2 _ rfl).1
  have xt2 : (w1).cell? ⟨w.heap.size + 1, 2, none⟩ = some d2 := (txcell (vs := #[d0, d1, d2, d3]) ft_0.out 2 _ rfl).1
  have xs3 : (w1).cell? ⟨w.heap.size, 3, none⟩ = some c3 := (txcell (vs := #[c0, c1, c2, c3]) fs_0.out 3 _ rfl).1
  have xt3 : (w1).cell? ⟨w.heap.size + 1, 3, none⟩ = some d3 := (txcell (vs := #[d0, d1, d2, d3]) ft_0.out 3 _ rfl).1
  have AC := mkHid (atom_any _ (tA 9 s t) _ _ (mk_atom (W := w1) (T := 35) (RdT.kept bel0.out s _ _ _ _ HRS.out) (RdT.kept bel0.out t _ _ _ _ HRT.out) 9 ⟨by decide, by decide⟩ rfl) (Below.refl _ _))
  rw [HH9.out] at AC
  have wlt : w.heap.size + 2 ≤ w1.heap.size := q0.out
  go_wp2_with (fail)
  refine AC.out.mono ?_
  rintro e Y1 ⟨r0, rfl, hV, hC0⟩
  obtain ⟨no0, co0, n0, k0, o0, d0', rfl, hM0, hN0, hO0⟩ := hV
  have hK0 := mkHid (bt2 (bt2 (bal (w1) (.cells #[c0, c1, c2, c3, d0, d1, d2, d3] 35)) hC0) (bal Y1 (.cells #[.int .i64 0, .slice no0 n0 k0, .slice co0 o0 d0', .int .i64 (-k), .int .i64 0] 26)))
  have bel1 := mkHid (bt2 bel0.out hK0.out)
  have fs_1 := mkHid (fs_0.out.keep hK0.out)
  have ft_1 := mkHid (ft_0.out.keep hK0.out)
  have p_le := mkHid (rb_new Y1 #[.int .i64 0, .slice no0 n0 k0, .slice co0 o0 d0', .int .i64 (-k), .int .i64 0] 26)
  have q1 : Hid (w.heap.size + 2 ≤ Y1.heap.size) := by have h1 := hC0.size; have h2 := q0.out; simp only [World.size_alloc] at h1; show _ ≤ _; omega
  clear AC wlt xs0 xs1 xs2 xs3 xt0 xt1 xt2 xt3 fs_0 ft_0 bel0 hC0
  replace hM0 := mkHid hM0
  replace hN0 := mkHid hN0
  replace hO0 := mkHid hO0
  have xs0 : ((Y1.alloc (.cells #[.int .i64 0, .slice no0 n0 k0, .slice co0 o0 d0', .int .i64 (-k), .int .i64 0] 26))).cell? ⟨w.heap.size, 0, none⟩ = some c0 := (txcell (vs := #[c0, c1, c2, c3]) fs_1.out 0 _ rfl).1
  have xt0 : ((Y1.alloc (.cells #[.int .i64 0, .slice no0 n0 k0, .slice co0 o0 d0', .int .i64 (-k), .int .i64 0] 26))).cell? ⟨w.heap.size + 1, 0, none⟩ = some d0 := (txcell (vs := #[d0, d1, d2, d3]) ft_1.out 0 _ rfl).1
  have xs1 : ((Y1.alloc (.cells #[.int .i64 0, .slice no0 n0 k0, .slice co0 o0 d0', .int .i64 (-k), .int .i64 0] 26))).cell? ⟨w.heap.size, 1, none⟩ = some c1 := (txcell (vs := #[c0, c1, c2, c3]) fs_1.out 1 _ rfl).1
  have xt1 : ((Y1.alloc (.cells #[.int .i64 0, .slice no0 n0 k0, .slice co0 o0 d0', .int .i64 (-k), .int .i64 0] 26))).cell? ⟨w.heap.size + 1, 1, none⟩ = some d1 := (txcell (vs := #[d0, d1, d2, d3]) ft_1.out 1 _ rfl).1
  have xs2 : ((Y1.alloc (.cells #[.int .i64 0, .slice no0 n0 k0, .slice co0 o0 d0', .int .i64 (-k), .int .i64 0] 26))).cell? ⟨w.heap.size, 2, none⟩ = some c2 := (txcell (vs := #[c0, c1, c2, c3]) fs_1.out 2 _ rfl).1
  have xt2 : ((Y1.alloc (.cells #[.int .i64 0, .slice no0 n0 k0, .slice co0 o0 d0', .int .i64 (-k), .int .i64 0] 26))).cell? ⟨w.heap.size + 1, 2, none⟩ = some d2 := (txcell (vs := #[d0, d1, d2, d3]) ft_1.out 2 _ rfl).1
  have xs3 : ((Y1.alloc (.cells #[.int .i64 0, .slice no0 n0 k0, .slice co0 o0 d0', .int .i64 (-k), .int .i64 0] 26))).cell? ⟨w.heap.size, 3, none⟩ = some c3 := (txcell (vs := #[c0, c1, c2, c3]) fs_1.out 3 _ rfl).1
  have xt3 : ((Y1.alloc (.cells #[.int .i64 0, .slice no0 n0 k0, .slice co0 o0 d0', .int .i64 (-k), .int .i64 0] 26))).cell? ⟨w.heap.size + 1, 3, none⟩ = some d3 := (txcell (vs := #[d0, d1, d2, d3]) ft_1.out 3 _ rfl).1
  have AC := mkHid (atom_any _ (tA 11 t s) _ _ (mk_atom (W := (Y1.alloc (.cells #[.int .i64 0, .slice no0 n0 k0, .slice co0 o0 d0', .int .i64 (-k), .int .i64 0] 26))) (T := 35) (RdT.kept bel1.out t _ _ _ _ HRT.out) (RdT.kept bel1.out s _ _ _ _ HRS.out) 11 ⟨by decide, by decide⟩ (show _ = Y1.heap.size + 1 by simp)) (Below.refl _ _))
  rw [HH11.out] at AC
  have wlt : w.heap.size + 2 ≤ Y1.heap.size := q1.out
  go_wp2_with (fail)
  refine AC.out.mono ?_
  rintro e Y2 ⟨r1, rfl, hV, hC1⟩
  obtain ⟨no1, co1, n1, k1, o1, d1', rfl, hM1, hN1, hO1⟩ := hV
  have hK1 := mkHid (bt2 (bt2 (bal ((Y1.alloc (.cells #[.int .i64 0, .slice no0 n0 k0, .slice co0 o0 d0', .int .i64 (-k), .int .i64 0] 26))) (.cells #[d0, d1, d2, d3, c0, c1, c2, c3] 35)) hC1) (bal Y2 (.cells #[.int .i64 0, .slice no1 n1 k1, .slice co1 o1 d1', .int .i64 (-k), .int .i64 0] 26)))
  have bel2 := mkHid (bt2 bel1.out hK1.out)
  have fs_2 := mkHid (fs_1.out.keep hK1.out)
  have ft_2 := mkHid (ft_1.out.keep hK1.out)
  replace p_le := mkHid (p_le.out.keep hK1.out)
  have p_ge := mkHid (rb_new Y2 #[.int .i64 0, .slice no1 n1 k1, .slice co1 o1 d1', .int .i64 (-k), .int .i64 0] 26)
  have q2 : Hid (w.heap.size + 2 ≤ Y2.heap.size) := by have h1 := hC1.size; have h2 := q1.out; simp only [World.size_alloc] at h1; show _ ≤ _; omega
  have zz1 : Hid (Y1.heap.size + 1 ≤ Y2.heap.size) := by have h1 := hC1.size; simp only [World.size_alloc] at h1; show _ ≤ _; omega
  clear AC wlt xs0 xs1 xs2 xs3 xt0 xt1 xt2 xt3 fs_1 ft_1 bel1 hC1
  replace hM1 := mkHid hM1
  replace hN1 := mkHid hN1
  replace hO1 := mkHid hO1
  have xs0 : ((Y2.alloc (.cells #[.int .i64 0, .slice no1 n1 k1, .slice co1 o1 d1', .int .i64 (-k), .int .i64 0] 26))).cell? ⟨w.heap.size, 0, none⟩ = some c0 := (txcell (vs := #[c0, c1, c2, c3]) fs_2.out 0 _ rfl).1
  have xt0 : ((Y2.alloc (.cells #[.int .i64 0, .slice no1 n1 k1, .slice co1 o1 d1', .int .i64 (-k), .int .i64 0] 26))).cell? ⟨w.heap.size + 1, 0, none⟩ = some d0 := (txcell (vs := #[d0, d1, d2, d3]) ft_2.out 0 _ rfl).1
  have xs1 : ((Y2.alloc (.cells #[.int .i64 0, .slice no1 n1 k1, .slice co1 o1 d1', .int .i64 (-k), .int .i64 0] 26))).cell? ⟨w.heap.size, 1, none⟩ = some c1 := (txcell (vs := #[c0, c1, c2, c3]) fs_2.out 1 _ rfl).1
  have xt1 : ((Y2.alloc (.cells #[.int .i64 0, .slice no1 n1 k1, .slice co1 o1 d1', .int .i64 (-k), .int .i64 0] 26))).cell? ⟨w.heap.size + 1, 1, none⟩ = some d1 := (txcell (vs := #[d0, d1, d2, d3]) ft_2.out 1 _ rfl).1
  have xs2 : ((Y2.alloc (.cells #[.int .i64 0, .slice no1 n1 k1, .slice co1 o1 d1', .int .i64 (-k), .int .i64 0] 26))).cell? ⟨w.heap.size, 2, none⟩ = some c2 := (txcell (vs := #[c0, c1, c2, c3]) fs_2.out 2 _ rfl).1
  have xt2 : ((Y2.alloc (.cells #[.int .i64 0, .slice no1 n1 k1, .slice co1 o1 d1', .int .i64 (-k), .int .i64 0] 26))).cell? ⟨w.heap.size + 1, 2, none⟩ = some d2 := (txcell (vs := #[d0, d1, d2, d3]) ft_2.out 2 _ rfl).1
  have xs3 : ((Y2.alloc (.cells #[.int .i64 0, .slice no1 n1 k1, .slice co1 o1 d1', .int .i64 (-k), .int .i64 0] 26))).cell? ⟨w.heap.size, 3, none⟩ = some c3 := (txcell (vs := #[c0, c1, c2, c3]) fs_2.out 3 _ rfl).1
  have xt3 : ((Y2.alloc (.cells #[.int .i64 0, .slice no1 n1 k1, .slice co1 o1 d1', .int .i64 (-k), .int .i64 0] 26))).cell? ⟨w.heap.size + 1, 3, none⟩ = some d3 := (txcell (vs := #[d0, d1, d2, d3]) ft_2.out 3 _ rfl).1
  have AC := mkHid (atom_any _ (tA 10 s t) _ _ (mk_atom (W := (Y2.alloc (.cells #[.int .i64 0, .slice no1 n1 k1, .slice co1 o1 d1', .int .i64 (-k), .int .i64 0] 26))) (T := 35) (RdT.kept bel2.out s _ _ _ _ HRS.out) (RdT.kept bel2.out t _ _ _ _ HRT.out) 10 ⟨by decide, by decide⟩ (show _ = Y2.heap.size + 1 by simp)) (Below.refl _ _))
  rw [HH10.out] at AC
  have wlt : w.heap.size + 2 ≤ Y2.heap.size := q2.out
  go_wp2_with (fail)
  refine AC.out.mono ?_
  rintro e Y3 ⟨r2, rfl, hV, hC2⟩
  have hv : r2 = .tuple #[.agg zN, .int .i64 (x2 : Nat)] := hV
  subst hv
  clear hV
  have hK2 := mkHid (bt2 (bt2 (bal ((Y2.alloc (.cells #[.int .i64 0, .slice no1 n1 k1, .slice co1 o1 d1', .int .i64 (-k), .int .i64 0] 26))) (.cells #[c0, c1, c2, c3, d0, d1, d2, d3] 35)) hC2) (bal Y3 (.cells #[.int .i64 0, .slice none 0 0, .slice none 0 0, .int .i64 0, .int .i64 0] 26)))
  have bel3 := mkHid (bt2 bel2.out hK2.out)
  have fs_3 := mkHid (fs_2.out.keep hK2.out)
  have ft_3 := mkHid (ft_2.out.keep hK2.out)
  replace p_le := mkHid (p_le.out.keep hK2.out)
  replace p_ge := mkHid (p_ge.out.keep hK2.out)
  have p_lt := mkHid (rb_new Y3 #[.int .i64 0, .slice none 0 0, .slice none 0 0, .int .i64 0, .int .i64 0] 26)
  have q3 : Hid (w.heap.size + 2 ≤ Y3.heap.size) := by have h1 := hC2.size; have h2 := q2.out; simp only [World.size_alloc] at h1; show _ ≤ _; omega
  have zz2 : Hid (Y2.heap.size + 1 ≤ Y3.heap.size) := by have h1 := hC2.size; simp only [World.size_alloc] at h1; show _ ≤ _; omega
  clear AC wlt xs0 xs1 xs2 xs3 xt0 xt1 xt2 xt3 fs_2 ft_2 bel2 hC2
  have xs0 : ((Y3.alloc (.cells #[.int .i64 0, .slice none 0 0, .slice none 0 0, .int .i64 0, .int .i64 0] 26))).cell? ⟨w.heap.size, 0, none⟩ = some c0 := (txcell (vs := #[c0, c1, c2, c3]) fs_3.out 0 _ rfl).1
  have xt0 : ((Y3.alloc (.cells #[.int .i64 0, .slice none 0 0, .slice none 0 0, .int .i64 0, .int .i64 0] 26))).cell? ⟨w.heap.size + 1, 0, none⟩ = some d0 := (txcell (vs := #[d0, d1, d2, d3]) ft_3.out 0 _ rfl).1
  have xs1 : ((Y3.alloc (.cells #[.int .i64 0, .slice none 0 0, .slice none 0 0, .int .i64 0, .int .i64 0] 26))).cell? ⟨w.heap.size, 1, none⟩ = some c1 := (txcell (vs := #[c0, c1, c2, c3]) fs_3.out 1 _ rfl).1
  have xt1 : ((Y3.alloc (.cells #[.int .i64 0, .slice none 0 0, .slice none 0 0, .int .i64 0, .int .i64 0] 26))).cell? ⟨w.heap.size + 1, 1, none⟩ = some d1 := (txcell (vs := #[d0, d1, d2, d3]) ft_3.out 1 _ rfl).1
  have xs2 : ((Y3.alloc (.cells #[.int .i64 0, .slice none 0 0, .slice none 0 0, .int .i64 0, .int .i64 0] 26))).cell? ⟨w.heap.size, 2, none⟩ = some c2 := (txcell (vs := #[c0, c1, c2, c3]) fs_3.out 2 _ rfl).1
  have xt2 : ((Y3.alloc (.cells #[.int .i64 0, .slice none 0 0, .slice none 0 0, .int .i64 0, .int .i64 0] 26))).cell? ⟨w.heap.size + 1, 2, none⟩ = some d2 := (txcell (vs := #[d0, d1, d2, d3]) ft_3.out 2 _ rfl).1
  have xs3 : ((Y3.alloc (.cells #[.int .i64 0, .slice none 0 0, .slice none 0 0, .int .i64 0, .int .i64 0] 26))).cell? ⟨w.heap.size, 3, none⟩ = some c3 := (txcell (vs := #[c0, c1, c2, c3]) fs_3.out 3 _ rfl).1
  have xt3 : ((Y3.alloc (.cells #[.int .i64 0, .slice none 0 0, .slice none 0 0, .int .i64 0, .int .i64 0] 26))).cell? ⟨w.heap.size + 1, 3, none⟩ = some d3 := (txcell (vs := #[d0, d1, d2, d3]) ft_3.out 3 _ rfl).1
  have AC := mkHid (atom_any _ (tA 12 t s) _ _ (mk_atom (W := (Y3.alloc (.cells #[.int .i64 0, .slice none 0 0, .slice none 0 0, .int .i64 0, .int .i64 0] 26))) (T := 35) (RdT.kept bel3.out t _ _ _ _ HRT.out) (RdT.kept bel3.out s _ _ _ _ HRS.out) 12 ⟨by decide, by decide⟩ (show _ = Y3.heap.size + 1 by simp)) (Below.refl _ _))
  rw [HH12.out] at AC
  have wlt : w.heap.size + 2 ≤ Y3.heap.size := q3.out
  go_wp2_with (fail)
  refine AC.out.mono ?_
  rintro e Y4 ⟨r3, rfl, hV, hC3⟩
  have hv : r3 = .tuple #[.agg zN, .int .i64 (y2 : Nat)] := hV
  subst hv
  clear hV
  have hK3 := mkHid (bt2 (bt2 (bal ((Y3.alloc (.cells #[.int .i64 0, .slice none 0 0, .slice none 0 0, .int .i64 0, .int .i64 0] 26))) (.cells #[d0, d1, d2, d3, c0, c1, c2, c3] 35)) hC3) (bal Y4 (.cells #[.int .i64 0, .slice none 0 0, .slice none 0 0, .int .i64 0, .int .i64 0] 26)))
  have bel4 := mkHid (bt2 bel3.out hK3.out)
  have fs_4 := mkHid (fs_3.out.keep hK3.out)
  have ft_4 := mkHid (ft_3.out.keep hK3.out)
  replace p_le := mkHid (p_le.out.keep hK3.out)
  replace p_ge := mkHid (p_ge.out.keep hK3.out)
  replace p_lt := mkHid (p_lt.out.keep hK3.out)
  have p_gt := mkHid (rb_new Y4 #[.int .i64 0, .slice none 0 0, .slice none 0 0, .int .i64 0, .int .i64 0] 26)
  have q4 : Hid (w.heap.size + 2 ≤ Y4.heap.size) := by have h1 := hC3.size; have h2 := q3.out; simp only [World.size_alloc] at h1; show _ ≤ _; omega
  have zz3 : Hid (Y3.heap.size + 1 ≤ Y4.heap.size) := by have h1 := hC3.size; simp only [World.size_alloc] at h1; show _ ≤ _; omega
  clear AC wlt xs0 xs1 xs2 xs3 xt0 xt1 xt2 xt3 fs_3 ft_3 bel3 hC3
  have xs0 : ((Y4.alloc (.cells #[.int .i64 0, .slice none 0 0, .slice none 0 0, .int .i64 0, .int .i64 0] 26))).cell? ⟨w.heap.size, 0, none⟩ = some c0 := (txcell (vs := #[c0, c1, c2, c3]) fs_4.out 0 _ rfl).1
  have xt0 : ((Y4.alloc (.cells #[.int .i64 0, .slice none 0 0, .slice none 0 0, .int .i64 0, .int .i64 0] 26))).cell? ⟨w.heap.size + 1, 0, none⟩ = some d0 := (txcell (vs := #[d0, d1, d2, d3]) ft_4.out 0 _ rfl).1
  have xs1 : ((Y4.alloc (.cells #[.int .i64 0, .slice none 0 0, .slice none 0 0, .int .i64 0, .int .i64 0] 26))).cell? ⟨w.heap.size, 1, none⟩ = some c1 := (txcell (vs := #[c0, c1, c2, c3]) fs_4.out 1 _ rfl).1
  have xt1 : ((Y4.alloc (.cells #[.int .i64 0, .slice none 0 0, .slice none 0 0, .int .i64 0, .int .i64 0] 26))).cell? ⟨w.heap.size + 1, 1, none⟩ = some d1 := (txcell (vs := #[d0, d1, d2, d3]) ft_4.out 1 _ rfl).1
  have xs2 : ((Y4.alloc (.cells #[.int .i64 0, .slice none 0 0, .slice none 0 0, .int .i64 0, .int .i64 0] 26))).cell? ⟨w.heap.size, 2, none⟩ = some c2 := (txcell (vs := #[c0, c1, c2, c3]) fs_4.out 2 _ rfl).1
  have xt2 : ((Y4.alloc (.cells #[.int .i64 0, .slice none 0 0, .slice none 0 0, .int .i64 0, .int .i64 0] 26))).cell? ⟨w.heap.size + 1, 2, none⟩ = some d2 := (txcell (vs := #[d0, d1, d2, d3]) ft_4.out 2 _ rfl).1
  have xs3 : ((Y4.alloc (.cells #[.int .i64 0, .slice none 0 0, .slice none 0 0, .int .i64 0, .int .i64 0] 26))).cell? ⟨w.heap.size, 3, none⟩ = some c3 := (txcell (vs := #[c0, c1, c2, c3]) fs_4.out 3 _ rfl).1
  have xt3 : ((Y4.alloc (.cells #[.int .i64 0, .slice none 0 0, .slice none 0 0, .int .i64 0, .int .i64 0] 26))).cell? ⟨w.heap.size + 1, 3, none⟩ = some d3 := (txcell (vs := #[d0, d1, d2, d3]) ft_4.out 3 _ rfl).1
  have AC := mkHid (atom_any _ (tA 13 s t) _ _ (mk_atom (W := (Y4.alloc (.cells #[.int .i64 0, .slice none 0 0, .slice none 0 0, .int .i64 0, .int .i64 0] 26))) (T := 35) (RdT.kept bel4.out s _ _ _ _ HRS.out) (RdT.kept bel4.out t _ _ _ _ HRT.out) 13 ⟨by decide, by decide⟩ (show _ = Y4.heap.size + 1 by simp)) (Below.refl _ _))
  rw [HH13.out] at AC
  have wlt : w.heap.size + 2 ≤ Y4.heap.size := q4.out
  go_wp2_with (fail)
  refine AC.out.mono ?_
  rintro e Y5 ⟨r4, rfl, hV, hC4⟩
  obtain ⟨no4, co4, n4, k4, o4, d4', rfl, hM4, hN4, hO4⟩ := hV
  have hK4 := mkHid (bt2 (bt2 (bal ((Y4.alloc (.cells #[.int .i64 0, .slice none 0 0, .slice none 0 0, .int .i64 0, .int .i64 0] 26))) (.cells #[c0, c1, c2, c3, d0, d1, d2, d3] 35)) hC4) (bal Y5 (.cells #[.int .i64 1, .slice no4 n4 k4, .slice co4 o4 d4', .int .i64 (-k), .int .i64 0] 26)))
  have bel5 := mkHid (bt2 bel4.out hK4.out)
  have fs_5 := mkHid (fs_4.out.keep hK4.out)
  have ft_5 := mkHid (ft_4.out.keep hK4.out)
  replace p_le := mkHid (p_le.out.keep hK4.out)
  replace p_ge := mkHid (p_ge.out.keep hK4.out)
  replace p_lt := mkHid (p_lt.out.keep hK4.out)
  replace p_gt := mkHid (p_gt.out.keep hK4.out)
  have p_eq := mkHid (rb_new Y5 #[.int .i64 1, .slice no4 n4 k4, .slice co4 o4 d4', .int .i64 (-k), .int .i64 0] 26)
  have q5 : Hid (w.heap.size + 2 ≤ Y5.heap.size) := by have h1 := hC4.size; have h2 := q4.out; simp only [World.size_alloc] at h1; show _ ≤ _; omega
  have zz4 : Hid (Y4.heap.size + 1 ≤ Y5.heap.size) := by have h1 := hC4.size; simp only [World.size_alloc] at h1; show _ ≤ _; omega
  clear AC wlt xs0 xs1 xs2 xs3 xt0 xt1 xt2 xt3 fs_4 ft_4 bel4 hC4
  replace hM4 := mkHid hM4
  replace hN4 := mkHid hN4
  replace hO4 := mkHid hO4
  have xs0 : ((Y5.alloc (.cells #[.int .i64 1, .slice no4 n4 k4, .slice co4 o4 d4', .int .i64 (-k), .int .i64 0] 26))).cell? ⟨w.heap.size, 0, none⟩ = some c0 := (txcell (vs := #[c0, c1, c2, c3]) fs_5.out 0 _ rfl).1
  have xt0 : ((Y5.alloc (.cells #[.int .i64 1, .slice no4 n4 k4, .slice co4 o4 d4', .int .i64 (-k), .int .i64 0] 26))).cell? ⟨w.heap.size + 1, 0, none⟩ = some d0 := (txcell (vs := #[d0, d1, d2, d3]) ft_5.out 0 _ rfl).1
  have xs1 : ((Y5.alloc (.cells #[.int .i64 1, .slice no4 n4 k4, .slice co4 o4 d4', .int .i64 (-k), .int .i64 0] 26))).cell? ⟨w.heap.size, 1, none⟩ = some c1 := (txcell (vs := #[c0, c1, c2, c3]) fs_5.out 1 _ rfl).1
  have xt1 : ((Y5.alloc (.cells #[.int .i64 1, .slice no4 n4 k4, .slice co4 o4 d4', .int .i64 (-k), .int .i64 0] 26))).cell? ⟨w.heap.size + 1, 1, none⟩ = some d1 := (txcell (vs := #[d0, d1, d2, d3]) ft_5.out 1 _ rfl).1
  have xs2 : ((Y5.alloc (.cells #[.int .i64 1, .slice no4 n4 k4, .slice co4 o4 d4', .int .i64 (-k), .int .i64 0] 26))).cell? ⟨w.heap.size, 2, none⟩ = some c2 := (txcell (vs := #[c0, c1, c2, c3]) fs_5.out 2 _ rfl).1
  have xt2 : ((Y5.alloc (.cells #[.int .i64 1, .slice no4 n4 k4, .slice co4 o4 d4', .int .i64 (-k), .int .i64 0] 26))).cell? ⟨w.heap.size + 1, 2, none⟩ = some d2 := (txcell (vs := #[d0, d1, d2, d3]) ft_5.out 2 _ rfl).1
  have xs3 : ((Y5.alloc (.cells #[.int .i64 1, .slice no4 n4 k4, .slice co4 o4 d4', .int .i64 (-k), .int .i64 0] 26))).cell? ⟨w.heap.size, 3, none⟩ = some c3 := (txcell (vs := #[c0, c1, c2, c3]) fs_5.out 3 _ rfl).1
  have xt3 : ((Y5.alloc (.cells #[.int .i64 1, .slice no4 n4 k4, .slice co4 o4 d4', .int .i64 (-k), .int .i64 0] 26))).cell? ⟨w.heap.size + 1, 3, none⟩ = some d3 := (txcell (vs := #[d0, d1, d2, d3]) ft_5.out 3 _ rfl).1
  have AC := mkHid (atom_any _ (tA 14 s t) _ _ (mk_atom (W := (Y5.alloc (.cells #[.int .i64 1, .slice no4 n4 k4, .slice co4 o4 d4', .int .i64 (-k), .int .i64 0] 26))) (T := 35) (RdT.kept bel5.out s _ _ _ _ HRS.out) (RdT.kept bel5.out t _ _ _ _ HRT.out) 14 ⟨by decide, by decide⟩ (show _ = Y5.heap.size + 1 by simp)) (Below.refl _ _))
  rw [HH14.out] at AC
  have wlt : w.heap.size + 2 ≤ Y5.heap.size := q5.out
  go_wp2_with (fail)
  refine AC.out.mono ?_
  rintro e Y6 ⟨r5, rfl, hV, hC5⟩
  obtain ⟨no5, co5, n5, k5, o5, d5', rfl, hM5, hN5, hO5⟩ := hV
  have hK5 := mkHid (bt2 (bt2 (bal ((Y5.alloc (.cells #[.int .i64 1, .slice no4 n4 k4, .slice co4 o4 d4', .int .i64 (-k), .int .i64 0] 26))) (.cells #[c0, c1, c2, c3, d0, d1, d2, d3] 35)) hC5) (bal Y6 (.cells #[.int .i64 1, .slice no5 n5 k5, .slice co5 o5 d5', .int .i64 (-k), .int .i64 0] 26)))
  have bel6 := mkHid (bt2 bel5.out hK5.out)
  have fs_6 := mkHid (fs_5.out.keep hK5.out)
  have ft_6 := mkHid (ft_5.out.keep hK5.out)
  replace p_le := mkHid (p_le.out.keep hK5.out)
  replace p_ge := mkHid (p_ge.out.keep hK5.out)
  replace p_lt := mkHid (p_lt.out.keep hK5.out)
  replace p_gt := mkHid (p_gt.out.keep hK5.out)
  replace p_eq := mkHid (p_eq.out.keep hK5.out)
  have p_ne := mkHid (rb_new Y6 #[.int .i64 1, .slice no5 n5 k5, .slice co5 o5 d5', .int .i64 (-k), .int .i64 0] 26)
  have q6 : Hid (w.heap.size + 2 ≤ Y6.heap.size) := by have h1 := hC5.size; have h2 := q5.out; simp only [World.size_alloc] at h1; show _ ≤ _; omega
  have zz5 : Hid (Y5.heap.size + 1 ≤ Y6.heap.size) := by have h1 := hC5.size; simp only [World.size_alloc] at h1; show _ ≤ _; omega
  clear AC wlt xs0 xs1 xs2 xs3 xt0 xt1 xt2 xt3 fs_5 ft_5 bel5 hC5
  replace hM5 := mkHid hM5
  replace hN5 := mkHid hN5
  replace hO5 := mkHid hO5
  replace hK0 := hK0.out
  replace hK1 := hK1.out
  replace hK2 := hK2.out
  replace hK3 := hK3.out
  replace hK4 := hK4.out
  replace hK5 := hK5.out
  replace p_le := p_le.out
  replace p_ge := p_ge.out
  replace p_lt := p_lt.out
  replace p_gt := p_gt.out
  replace p_eq := p_eq.out
  replace p_ne := p_ne.out
  replace bel6 := bel6.out
  replace hM0 := hM0.out
  replace hN0 := hN0.out
  replace hO0 := hO0.out
  replace hM1 := hM1.out
  replace hN1 := hN1.out
  replace hO1 := hO1.out
  replace hM4 := hM4.out
  replace hN4 := hN4.out
  replace hO4 := hO4.out
  replace hM5 := hM5.out
  replace hN5 := hN5.out
  replace hO5 := hO5.out
  replace zz1 := zz1.out
  replace zz2 := zz2.out
  replace zz3 := zz3.out
  replace zz4 := zz4.out
  replace zz5 := zz5.out
  have gq := q1.out
  have g6 : Below Y6.heap.size Y6 (Y6.alloc (.cells #[.int .i64 1, .slice no5 n5 k5, .slice co5 o5 d5', .int .i64 (-k), .int .i64 0] 26)) := bal _ _
  have g5 : Below Y5.heap.size Y5 (Y6.alloc (.cells #[.int .i64 1, .slice no5 n5 k5, .slice co5 o5 d5', .int .i64 (-k), .int .i64 0] 26)) := bt2 (bal Y5 (.cells #[.int .i64 1, .slice no4 n4 k4, .slice co4 o4 d4', .int .i64 (-k), .int .i64 0] 26)) hK5
  have g4 : Below Y4.heap.size Y4 (Y5.alloc (.cells #[.int .i64 1, .slice no4 n4 k4, .slice co4 o4 d4', .int .i64 (-k), .int .i64 0] 26)) := bt2 (bal Y4 (.cells #[.int .i64 0, .slice none 0 0, .slice none 0 0, .int .i64 0, .int .i64 0] 26)) hK4
  replace g4 := bt2 g4 hK5
  have g3 : Below Y3.heap.size Y3 (Y4.alloc (.cells #[.int .i64 0, .slice none 0 0, .slice none 0 0, .int .i64 0, .int .i64 0] 26)) := bt2 (bal Y3 (.cells #[.int .i64 0, .slice none 0 0, .slice none 0 0, .int .i64 0, .int .i64 0] 26)) hK3
  replace g3 := bt2 g3 hK4
  replace g3 := bt2 g3 hK5
  have g2 : Below Y2.heap.size Y2 (Y3.alloc (.cells #[.int .i64 0, .slice none 0 0, .slice none 0 0, .int .i64 0, .int .i64 0] 26)) := bt2 (bal Y2 (.cells #[.int .i64 0, .slice no1 n1 k1, .slice co1 o1 d1', .int .i64 (-k), .int .i64 0] 26)) hK2
  replace g2 := bt2 g2 hK3
  replace g2 := bt2 g2 hK4
  replace g2 := bt2 g2 hK5
  have g1 : Below Y1.heap.size Y1 (Y2.alloc (.cells #[.int .i64 0, .slice no1 n1 k1, .slice co1 o1 d1', .int .i64 (-k), .int .i64 0] 26)) := bt2 (bal Y1 (.cells #[.int .i64 0, .slice no0 n0 k0, .slice co0 o0 d0', .int .i64 (-k), .int .i64 0] 26)) hK1
  replace g1 := bt2 g1 hK2
  replace g1 := bt2 g1 hK3
  replace g1 := bt2 g1 hK4
  replace g1 := bt2 g1 hK5
  clear fs_6 ft_6 HRS HRT
  have wlt : w.heap.size + 2 ≤ Y6.heap.size := q6.out
  clear hK0 hK1 hK2 hK3 hK4 hK5
  have nx2 := H_nx2.out
  have ny2 := H_ny2.out
  have acc0 := Below.refl ((Y6.alloc (.cells #[.int .i64 1, .slice no5 n5 k5, .slice co5 o5 d5', .int .i64 (-k), .int .i64 0] 26))).heap.size ((Y6.alloc (.cells #[.int .i64 1, .slice no5 n5 k5, .slice co5 o5 d5', .int .i64 (-k), .int .i64 0] 26)))
  have f_eq0 : (Y6.alloc (.cells #[.int .i64 1, .slice no5 n5 k5, .slice co5 o5 d5', .int .i64 (-k), .int .i64 0] 26)).cell? ⟨Y5.heap.size, 0, none⟩ = some (.int .i64 1) := (txcell (vs := #[.int .i64 1, .slice no4 n4 k4, .slice co4 o4 d4', .int .i64 (-k), .int .i64 0]) p_eq 0 _ rfl).1
  have f_eq1 : (Y6.alloc (.cells #[.int .i64 1, .slice no5 n5 k5, .slice co5 o5 d5', .int .i64 (-k), .int .i64 0] 26)).cell? ⟨Y5.heap.size, 1, none⟩ = some (.slice no4 n4 k4) := (txcell (vs := #[.int .i64 1, .slice no4 n4 k4, .slice co4 o4 d4', .int .i64 (-k), .int .i64 0]) p_eq 1 _ rfl).1
  have f_eq2 : (Y6.alloc (.cells #[.int .i64 1, .slice no5 n5 k5, .slice co5 o5 d5', .int .i64 (-k), .int .i64 0] 26)).cell? ⟨Y5.heap.size, 2, none⟩ = some (.slice co4 o4 d4') := (txcell (vs := #[.int .i64 1, .slice no4 n4 k4, .slice co4 o4 d4', .int .i64 (-k), .int .i64 0]) p_eq 2 _ rfl).1
  have f_eq3 : (Y6.alloc (.cells #[.int .i64 1, .slice no5 n5 k5, .slice co5 o5 d5', .int .i64 (-k), .int .i64 0] 26)).cell? ⟨Y5.heap.size, 3, none⟩ = some (.int .i64 (-k)) := (txcell (vs := #[.int .i64 1, .slice no4 n4 k4, .slice co4 o4 d4', .int .i64 (-k), .int .i64 0]) p_eq 3 _ rfl).1
  have f_eq4 : (Y6.alloc (.cells #[.int .i64 1, .slice no5 n5 k5, .slice co5 o5 d5', .int .i64 (-k), .int .i64 0] 26)).cell? ⟨Y5.heap.size, 4, none⟩ = some (.int .i64 0) := (txcell (vs := #[.int .i64 1, .slice no4 n4 k4, .slice co4 o4 d4', .int .i64 (-k), .int .i64 0]) p_eq 4 _ rfl).1
  have f_ne0 : (Y6.alloc (.cells #[.int .i64 1, .slice no5 n5 k5, .slice co5 o5 d5', .int .i64 (-k), .int .i64 0] 26)).cell? ⟨Y6.heap.size, 0, none⟩ = some (.int .i64 1) := (txcell (vs := #[.int .i64 1, .slice no5 n5 k5, .slice co5 o5 d5', .int .i64 (-k), .int .i64 0]) p_ne 0 _ rfl).1
  have f_ne1 : (Y6.alloc (.cells #[.int .i64 1, .slice no5 n5 k5, .slice co5 o5 d5', .int .i64 (-k), .int .i64 0] 26)).cell? ⟨Y6.heap.size, 1, none⟩ = some (.slice no5 n5 k5) := (txcell (vs := #[.int .i64 1, .slice no5 n5 k5, .slice co5 o5 d5', .int .i64 (-k), .int .i64 0]) p_ne 1 _ rfl).1
  have f_ne2 : (Y6.alloc (.cells #[.int .i64 1, .slice no5 n5 k5, .slice co5 o5 d5', .int .i64 (-k), .int .i64 0] 26)).cell? ⟨Y6.heap.size, 2, none⟩ = some (.slice co5 o5 d5') := (txcell (vs := #[.int .i64 1, .slice no5 n5 k5, .slice co5 o5 d5', .int .i64 (-k), .int .i64 0]) p_ne 2 _ rfl).1
  have f_ne3 : (Y6.alloc (.cells #[.int .i64 1, .slice no5 n5 k5, .slice co5 o5 d5', .int .i64 (-k), .int .i64 0] 26)).cell? ⟨Y6.heap.size, 3, none⟩ = some (.int .i64 (-k)) := (txcell (vs := #[.int .i64 1, .slice no5 n5 k5, .slice co5 o5 d5', .int .i64 (-k), .int .i64 0]) p_ne 3 _ rfl).1
  have f_ne4 : (Y6.alloc (.cells #[.int .i64 1, .slice no5 n5 k5, .slice co5 o5 d5', .int .i64 (-k), .int .i64 0] 26)).cell? ⟨Y6.heap.size, 4, none⟩ = some (.int .i64 0) := (txcell (vs := #[.int .i64 1, .slice no5 n5 k5, .slice co5 o5 d5', .int .i64 (-k), .int .i64 0]) p_ne 4 _ rfl).1
  have NY := mkHid (normals_yes 1 (-k) 0 _ _ no4 no5 co4 co5 n4 k4 o4 d4' n5 k5 o5 d5' (Y6.alloc (.cells #[.int .i64 1, .slice no5 n5 k5, .slice co5 o5 d5', .int .i64 (-k), .int .i64 0] 26)) (hM4.ns.below (Nat.le_refl _) (bt2 g5 acc0)) (hM5.ns.below (Nat.le_refl _) (bt2 g6 acc0)) (hM4.cs.below (Nat.le_refl _) (bt2 g5 acc0)) (hM5.cs.below (Nat.le_refl _) (bt2 g6 acc0)))
  go_wp2_with (fail)
  refine NY.out.mono ?_
  rintro e u1 ⟨rfl, hU1⟩
  have acc1 := bt2 acc0 hU1
  replace p_le := p_le.keep hU1
  replace p_ge := p_ge.keep hU1
  replace p_lt := p_lt.keep hU1
  replace p_gt := p_gt.keep hU1
  replace p_eq := p_eq.keep hU1
  replace p_ne := p_ne.keep hU1
  clear NY f_eq0 f_eq1 f_eq2 f_eq3 f_eq4 f_ne0 f_ne1 f_ne2 f_ne3 f_ne4
  have f_le0 : u1.cell? ⟨Y1.heap.size, 0, none⟩ = some (.int .i64 0) := (txcell (vs := #[.int .i64 0, .slice no0 n0 k0, .slice co0 o0 d0', .int .i64 (-k), .int .i64 0]) p_le 0 _ rfl).1
  have f_le1 : u1.cell? ⟨Y1.heap.size, 1, none⟩ = some (.slice no0 n0 k0) := (txcell (vs := #[.int .i64 0, .slice no0 n0 k0, .slice co0 o0 d0', .int .i64 (-k), .int .i64 0]) p_le 1 _ rfl).1
  have f_le2 : u1.cell? ⟨Y1.heap.size, 2, none⟩ = some (.slice co0 o0 d0') := (txcell (vs := #[.int .i64 0, .slice no0 n0 k0, .slice co0 o0 d0', .int .i64 (-k), .int .i64 0]) p_le 2 _ rfl).1
  have f_le3 : u1.cell? ⟨Y1.heap.size, 3, none⟩ = some (.int .i64 (-k)) := (txcell (vs := #[.int .i64 0, .slice no0 n0 k0, .slice co0 o0 d0', .int .i64 (-k), .int .i64 0]) p_le 3 _ rfl).1
  have f_le4 : u1.cell? ⟨Y1.heap.size, 4, none⟩ = some (.int .i64 0) := (txcell (vs := #[.int .i64 0, .slice no0 n0 k0, .slice co0 o0 d0', .int .i64 (-k), .int .i64 0]) p_le 4 _ rfl).1
  have f_ge0 : u1.cell? ⟨Y2.heap.size, 0, none⟩ = some (.int .i64 0) := (txcell (vs := #[.int .i64 0, .slice no1 n1 k1, .slice co1 o1 d1', .int .i64 (-k), .int .i64 0]) p_ge 0 _ rfl).1
  have f_ge1 : u1.cell? ⟨Y2.heap.size, 1, none⟩ = some (.slice no1 n1 k1) := (txcell (vs := #[.int .i64 0, .slice no1 n1 k1, .slice co1 o1 d1', .int .i64 (-k), .int .i64 0]) p_ge 1 _ rfl).1
  have f_ge2 : u1.cell? ⟨Y2.heap.size, 2, none⟩ = some (.slice co1 o1 d1') := (txcell (vs := #[.int .i64 0, .slice no1 n1 k1, .slice co1 o1 d1', .int .i64 (-k), .int .i64 0]) p_ge 2 _ rfl).1
  have f_ge3 : u1.cell? ⟨Y2.heap.size, 3, none⟩ = some (.int .i64 (-k)) := (txcell (vs := #[.int .i64 0, .slice no1 n1 k1, .slice co1 o1 d1', .int .i64 (-k), .int .i64 0]) p_ge 3 _ rfl).1
  have f_ge4 : u1.cell? ⟨Y2.heap.size, 4, none⟩ = some (.int .i64 0) := (txcell (vs := #[.int .i64 0, .slice no1 n1 k1, .slice co1 o1 d1', .int .i64 (-k), .int .i64 0]) p_ge 4 _ rfl).1
  have NY := mkHid (normals_yes 0 (-k) 0 _ _ no0 no1 co0 co1 n0 k0 o0 d0' n1 k1 o1 d1' u1 (hM0.ns.below (Nat.le_refl _) (bt2 g1 acc1)) (hM1.ns.below (Nat.le_refl _) (bt2 g2 acc1)) (hM0.cs.below (Nat.le_refl _) (bt2 g1 acc1)) (hM1.cs.below (Nat.le_refl _) (bt2 g2 acc1)))
  go_wp2_with (fail)
  refine NY.out.mono ?_
  rintro e u2 ⟨rfl, hU2⟩
  have acc2 := bt2 acc1 hU2
  replace p_le := p_le.keep hU2
  replace p_ge := p_ge.keep hU2
  replace p_lt := p_lt.keep hU2
  replace p_gt := p_gt.keep hU2
  replace p_eq := p_eq.keep hU2
  replace p_ne := p_ne.keep hU2
  clear NY f_le0 f_le1 f_le2 f_le3 f_le4 f_ge0 f_ge1 f_ge2 f_ge3 f_ge4
  go_wp2_with (fail)
  go_ret
  exact ⟨rfl, bt2 bel6 acc2⟩
end Go.Proofs.Ytiapkblebbcfbaa.Gl
/- NormTurns: the walk. -/
namespace Go.Proofs.Ytiapkblebbcfbaa.Gl
open Go.RowKit
set_option linter.unusedVariables false
set_option linter.unusedSimpArgs false

set_option maxRecDepth 100000 in
set_option maxHeartbeats 8000000 in
theorem turns_oo (s t : Tm) (v0 v1 : Value) (w : World) (hs : TmV w s v0) (ht : TmV w t v1) (ns : List ByteArray) (cs : List Int) (k : Int) (h9 : atm (tA 9 s t) = .ok ⟨0, ns, cs, -k, 0⟩) (h11 : atm (tA 11 t s) = .ok ⟨0, ns, cs, -k, 0⟩) (h13 : atm (tA 13 s t) = .ok ⟨1, ns, cs, -k, 0⟩) (h14 : atm (tA 14 s t) = .ok ⟨1, ns, cs, -k, 0⟩) (h10 : atm (tA 10 s t) = .ok ⟨0, ns, cs, -k - 1, 0⟩) (h12 : atm (tA 12 t s) = .ok ⟨0, ns, cs, -k - 1, 0⟩) :
    Calls Try.prog 6 #[v0, v1] w fun e w' => e = .returned (.bool true) ∧ Below w.heap.size w w' := by
  obtain ⟨c0, c1, c2, c3, rfl, hrs⟩ := hs
  obtain ⟨d0, d1, d2, d3, rfl, hrt⟩ := ht
  have hR1 := rb_new w #[c0, c1, c2, c3] 35
  have hB1 := bal w (.cells #[c0, c1, c2, c3] 35)
  have hs1 : (w.alloc (.cells #[c0, c1, c2, c3] 35)).heap.size = w.heap.size + 1 := by simp
  have hR2 := rb_new (w.alloc (.cells #[c0, c1, c2, c3] 35)) #[d0, d1, d2, d3] 35
  rw [hs1] at hR2
  have hR1' := hR1.keep (bal _ (.cells #[d0, d1, d2, d3] 35))
  have hB2 := bt2 hB1 (bal _ (.cells #[d0, d1, d2, d3] 35))
  have FX := mkHid (nfixed_at ((w.alloc (.cells #[c0, c1, c2, c3] 35)).alloc (.cells #[d0, d1, d2, d3] 35)))
  clear hR1 hB1 hs1
  go_enter Try.func6, Try.ntmps6
  go_wp2_with (fail)
  refine FX.out.mono ?_
  rintro e w1 ⟨rfl, hB3⟩
  have bel0 := mkHid (bt2 hB2 hB3)
  have fs_0 := mkHid (hR1'.keep hB3)
  have ft_0 := mkHid (hR2.keep hB3)
  have HRS := mkHid hrs
  have HRT := mkHid hrt
  have HH9 := mkHid h9
  have HH10 := mkHid h10
  have HH11 := mkHid h11
  have HH12 := mkHid h12
  have HH13 := mkHid h13
  have HH14 := mkHid h14
  clear hrs hrt h9 h10 h11 h12 h13 h14 
  clear FX hR1' hR2 hB2 hB3
  have q0 : Hid (w.heap.size + 2 ≤ w1.heap.size) := (Array.getElem?_eq_some_iff.1 ft_0.out).1
  have xs0 : (w1).cell? ⟨w.heap.size, 0, none⟩ = some c0 := (txcell (vs := #[c0, c1, c2, c3]) fs_0.out 0 _ rfl).1
  have xt0 : (w1).cell? ⟨w.heap.size + 1, 0, none⟩ = some d0 := (txcell (vs := #[d0, d1, d2, d3]) ft_0.out 0 _ rfl).1
  have xs1 : (w1).cell? ⟨w.heap.size, 1, none⟩ = some c1 := (txcell (vs := #[c0, c1, c2, c3]) fs_0.out 1 _ rfl).1
  have xt1 : (w1).cell? ⟨w.heap.size + 1, 1, none⟩ = some d1 := (txcell (vs := #[d0, d1, d2, d3]) ft_0.out 1 _ rfl).1
  have xs2 : (w1).cell? ⟨w.heap.size, 2, none⟩ = some c2 := (txcell (vs := #[c0, c1, c2, c3]) fs_0.out 2 _ rfl).1
  have xt2 : (w1).cell? ⟨w.heap.size + 1, 2, none⟩ = some d2 := (txcell (vs := #[d0, d1, d2, d3]) ft_0.out 2 _ rfl).1
  have xs3 : (w1).cell? ⟨w.heap.size, 3, none⟩ = some c3 := (txcell (vs := #[c0, c1, c2, c3]) fs_0.out 3 _ rfl).1
  have xt3 : (w1).cell? ⟨w.heap.size + 1, 3, none⟩ = some d3 := (txcell (vs := #[d0, d1, d2, d3]) ft_0.out 3 _ rfl).1
  have AC := mkHid (atom_any _ (tA 9 s t) _ _ (mk_atom (W := w1) (T := 35) (RdT.kept bel0.out s _ _ _ _ HRS.out) (RdT.kept bel0.out t _ _ _ _ HRT.out) 9 ⟨by decide, by decide⟩ rfl) (Below.refl _ _))
  rw [HH9.out] at AC
  have wlt : w.heap.size + 2 ≤ w1.heap.size := q0.out
  go_wp2_with (fail)
  refine AC.out.mono ?_
  rintro e Y1 ⟨r0, rfl, hV, hC0⟩
  obtain ⟨no0, co0, n0, k0, o0, d0', rfl, hM0, hN0, hO0⟩ := hV
  have hK0 := mkHid (bt2 (bt2 (bal (w1) (.cells #[c0, c1, c2, c3, d0, d1, d2, d3] 35)) hC0) (bal Y1 (.cells #[.int .i64 0, .slice no0 n0 k0, .slice co0 o0 d0', .int .i64 (-k), .int .i64 0] 26)))
  have bel1 := mkHid (bt2 bel0.out hK0.out)
  have fs_1 := mkHid (fs_0.out.keep hK0.out)
  have ft_1 := mkHid (ft_0.out.keep hK0.out)
  have p_le := mkHid (rb_new Y1 #[.int .i64 0, .slice no0 n0 k0, .slice co0 o0 d0', .int .i64 (-k), .int .i64 0] 26)
  have q1 : Hid (w.heap.size + 2 ≤ Y1.heap.size) := by have h1 := hC0.size; have h2 := q0.out; simp only [World.size_alloc] at h1; show _ ≤ _; omega
  clear AC wlt xs0 xs1 xs2 xs3 xt0 xt1 xt2 xt3 fs_0 ft_0 bel0 hC0
  replace hM0 := mkHid hM0
  replace hN0 := mkHid hN0
  replace hO0 := mkHid hO0
  have xs0 : ((Y1.alloc (.cells #[.int .i64 0, .slice no0 n0 k0, .slice co0 o0 d0', .int .i64 (-k), .int .i64 0] 26))).cell? ⟨w.heap.size, 0, none⟩ = some c0 := (txcell (vs := #[c0, c1, c2, c3]) fs_1.out 0 _ rfl).1
  have xt0 : ((Y1.alloc (.cells #[.int .i64 0, .slice no0 n0 k0, .slice co0 o0 d0', .int .i64 (-k), .int .i64 0] 26))).cell? ⟨w.heap.size + 1, 0, none⟩ = some d0 := (txcell (vs := #[d0, d1, d2, d3]) ft_1.out 0 _ rfl).1
  have xs1 : ((Y1.alloc (.cells #[.int .i64 0, .slice no0 n0 k0, .slice co0 o0 d0', .int .i64 (-k), .int .i64 0] 26))).cell? ⟨w.heap.size, 1, none⟩ = some c1 := (txcell (vs := #[c0, c1, c2, c3]) fs_1.out 1 _ rfl).1
  have xt1 : ((Y1.alloc (.cells #[.int .i64 0, .slice no0 n0 k0, .slice co0 o0 d0', .int .i64 (-k), .int .i64 0] 26))).cell? ⟨w.heap.size + 1, 1, none⟩ = some d1 := (txcell (vs := #[d0, d1, d2, d3]) ft_1.out 1 _ rfl).1
  have xs2 : ((Y1.alloc (.cells #[.int .i64 0, .slice no0 n0 k0, .slice co0 o0 d0', .int .i64 (-k), .int .i64 0] 26))).cell? ⟨w.heap.size, 2, none⟩ = some c2 := (txcell (vs := #[c0, c1, c2, c3]) fs_1.out 2 _ rfl).1
  have xt2 : ((Y1.alloc (.cells #[.int .i64 0, .slice no0 n0 k0, .slice co0 o0 d0', .int .i64 (-k), .int .i64 0] 26))).cell? ⟨w.heap.size + 1, 2, none⟩ = some d2 := (txcell (vs := #[d0, d1, d2, d3]) ft_1.out 2 _ rfl).1
  have xs3 : ((Y1.alloc (.cells #[.int .i64 0, .slice no0 n0 k0, .slice co0 o0 d0', .int .i64 (-k), .int .i64 0] 26))).cell? ⟨w.heap.size, 3, none⟩ = some c3 := (txcell (vs := #[c0, c1, c2, c3]) fs_1.out 3 _ rfl).1
  have xt3 : ((Y1.alloc (.cells #[.int .i64 0, .slice no0 n0 k0, .slice co0 o0 d0', .int .i64 (-k), .int .i64 0] 26))).cell? ⟨w.heap.size + 1, 3, none⟩ = some d3 := (txcell (vs := #[d0, d1, d2, d3]) ft_1.out 3 _ rfl).1
  have AC := mkHid (atom_any _ (tA 11 t s) _ _ (mk_atom (W := (Y1.alloc (.cells #[.int .i64 0, .slice no0 n0 k0, .slice co0 o0 d0', .int .i64 (-k), .int .i64 0] 26))) (T := 35) (RdT.kept bel1.out t _ _ _ _ HRT.out) (RdT.kept bel1.out s _ _ _ _ HRS.out) 11 ⟨by decide, by decide⟩ (show _ = Y1.heap.size + 1 by simp)) (Below.refl _ _))
  rw [HH11.out] at AC
  have wlt : w.heap.size + 2 ≤ Y1.heap.size := q1.out
  go_wp2_with (fail)
  refine AC.out.mono ?_
  rintro e Y2 ⟨r1, rfl, hV, hC1⟩
  obtain ⟨no1, co1, n1, k1, o1, d1', rfl, hM1, hN1, hO1⟩ := hV
  have hK1 := mkHid (bt2 (bt2 (bal ((Y1.alloc (.cells #[.int .i64 0, .slice no0 n0 k0, .slice co0 o0 d0', .int .i64 (-k), .int .i64 0] 26))) (.cells #[d0, d1, d2, d3, c0, c1, c2, c3] 35)) hC1) (bal Y2 (.cells #[.int .i64 0, .slice no1 n1 k1, .slice co1 o1 d1', .int .i64 (-k), .int .i64 0] 26)))
  have bel2 := mkHid (bt2 bel1.out hK1.out)
  have fs_2 := mkHid (fs_1.out.keep hK1.out)
  have ft_2 := mkHid (ft_1.out.keep hK1.out)
  replace p_le := mkHid (p_le.out.keep hK1.out)
  have p_ge := mkHid (rb_new Y2 #[.int .i64 0, .slice no1 n1 k1, .slice co1 o1 d1', .int .i64 (-k), .int .i64 0] 26)
  have q2 : Hid (w.heap.size + 2 ≤ Y2.heap.size) := by have h1 := hC1.size; have h2 := q1.out; simp only [World.size_alloc] at h1; show _ ≤ _; omega
  have zz1 : Hid (Y1.heap.size + 1 ≤ Y2.heap.size) := by have h1 := hC1.size; simp only [World.size_alloc] at h1; show _ ≤ _; omega
  clear AC wlt xs0 xs1 xs2 xs3 xt0 xt1 xt2 xt3 fs_1 ft_1 bel1 hC1
  replace hM1 := mkHid hM1
  replace hN1 := mkHid hN1
  replace hO1 := mkHid hO1
  have xs0 : ((Y2.alloc (.cells #[.int .i64 0, .slice no1 n1 k1, .slice co1 o1 d1', .int .i64 (-k), .int .i64 0] 26))).cell? ⟨w.heap.size, 0, none⟩ = some c0 := (txcell (vs := #[c0, c1, c2, c3]) fs_2.out 0 _ rfl).1
  have xt0 : ((Y2.alloc (.cells #[.int .i64 0, .slice no1 n1 k1, .slice co1 o1 d1', .int .i64 (-k), .int .i64 0] 26))).cell? ⟨w.heap.size + 1, 0, none⟩ = some d0 := (txcell (vs := #[d0, d1, d2, d3]) ft_2.out 0 _ rfl).1
  have xs1 : ((Y2.alloc (.cells #[.int .i64 0, .slice no1 n1 k1, .slice co1 o1 d1', .int .i64 (-k), .int .i64 0] 26))).cell? ⟨w.heap.size, 1, none⟩ = some c1 := (txcell (vs := #[c0, c1, c2, c3]) fs_2.out 1 _ rfl).1
  have xt1 : ((Y2.alloc (.cells #[.int .i64 0, .slice no1 n1 k1, .slice co1 o1 d1', .int .i64 (-k), .int .i64 0] 26))).cell? ⟨w.heap.size + 1, 1, none⟩ = some d1 := (txcell (vs := #[d0, d1, d2, d3]) ft_2.out 1 _ rfl).1
  have xs2 : ((Y2.alloc (.cells #[.int .i64 0, .slice no1 n1 k1, .slice co1 o1 d1', .int .i64 (-k), .int .i64 0] 26))).cell? ⟨w.heap.size, 2, none⟩ = some c2 := (txcell (vs := #[c0, c1, c2, c3]) fs_2.out 2 _ rfl).1
  have xt2 : ((Y2.alloc (.cells #[.int .i64 0, .slice no1 n1 k1, .slice co1 o1 d1', .int .i64 (-k), .int .i64 0] 26))).cell? ⟨w.heap.size + 1, 2, none⟩ = some d2 := (txcell (vs := #[d0, d1, d2, d3]) ft_2.out 2 _ rfl).1
  have xs3 : ((Y2.alloc (.cells #[.int .i64 0, .slice no1 n1 k1, .slice co1 o1 d1', .int .i64 (-k), .int .i64 0] 26))).cell? ⟨w.heap.size, 3, none⟩ = some c3 := (txcell (vs := #[c0, c1, c2, c3]) fs_2.out 3 _ rfl).1
  have xt3 : ((Y2.alloc (.cells #[.int .i64 0, .slice no1 n1 k1, .slice co1 o1 d1', .int .i64 (-k), .int .i64 0] 26))).cell? ⟨w.heap.size + 1, 3, none⟩ = some d3 := (txcell (vs := #[d0, d1, d2, d3]) ft_2.out 3 _ rfl).1
  have AC := mkHid (atom_any _ (tA 10 s t) _ _ (mk_atom (W := (Y2.alloc (.cells #[.int .i64 0, .slice no1 n1 k1, .slice co1 o1 d1', .int .i64 (-k), .int .i64 0] 26))) (T := 35) (RdT.kept bel2.out s _ _ _ _ HRS.out) (RdT.kept bel2.out t _ _ _ _ HRT.out) 10 ⟨by decide, by decide⟩ (show _ = Y2.heap.size + 1 by simp)) (Below.refl _ _))
  rw [HH10.out] at AC
  have wlt : w.heap.size + 2 ≤ Y2.heap.size := q2.out
  go_wp2_with (fail)
  refine AC.out.mono ?_
  rintro e Y3 ⟨r2, rfl, hV, hC2⟩
  obtain ⟨no2, co2, n2, k2, o2, d2', rfl, hM2, hN2, hO2⟩ := hV
  have hK2 := mkHid (bt2 (bt2 (bal ((Y2.alloc (.cells #[.int .i64 0, .slice no1 n1 k1, .slice co1 o1 d1', .int .i64 (-k), .int .i64 0] 26))) (.cells #[c0, c1, c2, c3, d0, d1, d2, d3] 35)) hC2) (bal Y3 (.cells #[.int .i64 0, .slice no2 n2 k2, .slice co2 o2 d2', .int .i64 (-k - 1), .int .i64 0] 26)))
  have bel3 := mkHid (bt2 bel2.out hK2.out)
  have fs_3 := mkHid (fs_2.out.keep hK2.out)
  have ft_3 := mkHid (ft_2.out.keep hK2.out)
  replace p_le := mkHid (p_le.out.keep hK2.out)
  replace p_ge := mkHid (p_ge.out.keep hK2.out)
  have p_lt := mkHid (rb_new Y3 #[.int .i64 0, .slice no2 n2 k2, .slice co2 o2 d2', .int .i64 (-k - 1), .int .i64 0] 26)
  have q3 : Hid (w.heap.size + 2 ≤ Y3.heap.size) := by have h1 := hC2.size; have h2 := q2.out; simp only [World.size_alloc] at h1; show _ ≤ _; omega
  have zz2 : Hid (Y2.heap.size + 1 ≤ Y3.heap.size) := by have h1 := hC2.size; simp only [World.size_alloc] at h1; show _ ≤ _; omega
  clear AC wlt xs0 xs1 xs2 xs3 xt0 xt1 xt2 xt3 fs_2 ft_2 bel2 hC2
  replace hM2 := mkHid hM2
  replace hN2 := mkHid hN2
  replace hO2 := mkHid hO2
  have xs0 : ((Y3.alloc (.cells #[.int .i64 0, .slice no2 n2 k2, .slice co2 o2 d2', .int .i64 (-k - 1), .int .i64 0] 26))).cell? ⟨w.heap.size, 0, none⟩ = some c0 := (txcell (vs := #[c0, c1, c2, c3]) fs_3.out 0 _ rfl).1
  have xt0 : ((Y3.alloc (.cells #[.int .i64 0, .slice no2 n2 k2, .slice co2 o2 d2', .int .i64 (-k - 1), .int .i64 0] 26))).cell? ⟨w.heap.size + 1, 0, none⟩ = some d0 := (txcell (vs := #[d0, d1, d2, d3]) ft_3.out 0 _ rfl).1
  have xs1 : ((Y3.alloc (.cells #[.int .i64 0, .slice no2 n2 k2, .slice co2 o2 d2', .int .i64 (-k - 1), .int .i64 0] 26))).cell? ⟨w.heap.size, 1, none⟩ = some c1 := (txcell (vs := #[c0, c1, c2, c3]) fs_3.out 1 _ rfl).1
  have xt1 : ((Y3.alloc (.cells #[.int .i64 0, .slice no2 n2 k2, .slice co2 o2 d2', .int .i64 (-k - 1), .int .i64 0] 26))).cell? ⟨w.heap.size + 1, 1, none⟩ = some d1 := (txcell (vs := #[d0, d1, d2, d3]) ft_3.out 1 _ rfl).1
  have xs2 : ((Y3.alloc (.cells #[.int .i64 0, .slice no2 n2 k2, .slice co2 o2 d2', .int .i64 (-k - 1), .int .i64 0] 26))).cell? ⟨w.heap.size, 2, none⟩ = some c2 := (txcell (vs := #[c0, c1, c2, c3]) fs_3.out 2 _ rfl).1
  have xt2 : ((Y3.alloc (.cells #[.int .i64 0, .slice no2 n2 k2, .slice co2 o2 d2', .int .i64 (-k - 1), .int .i64 0] 26))).cell? ⟨w.heap.size + 1, 2, none⟩ = some d2 := (txcell (vs := #[d0, d1, d2, d3]) ft_3.out 2 _ rfl).1
  have xs3 : ((Y3.alloc (.cells #[.int .i64 0, .slice no2 n2 k2, .slice co2 o2 d2', .int .i64 (-k - 1), .int .i64 0] 26))).cell? ⟨w.heap.size, 3, none⟩ = some c3 := (txcell (vs := #[c0, c1, c2, c3]) fs_3.out 3 _ rfl).1
  have xt3 : ((Y3.alloc (.cells #[.int .i64 0, .slice no2 n2 k2, .slice co2 o2 d2', .int .i64 (-k - 1), .int .i64 0] 26))).cell? ⟨w.heap.size + 1, 3, none⟩ = some d3 := (txcell (vs := #[d0, d1, d2, d3]) ft_3.out 3 _ rfl).1
  have AC := mkHid (atom_any _ (tA 12 t s) _ _ (mk_atom (W := (Y3.alloc (.cells #[.int .i64 0, .slice no2 n2 k2, .slice co2 o2 d2', .int .i64 (-k - 1), .int .i64 0] 26))) (T := 35) (RdT.kept bel3.out t _ _ _ _ HRT.out) (RdT.kept bel3.out s _ _ _ _ HRS.out) 12 ⟨by decide, by decide⟩ (show _ = Y3.heap.size + 1 by simp)) (Below.refl _ _))
  rw [HH12.out] at AC
  have wlt : w.heap.size + 2 ≤ Y3.heap.size := q3.out
  go_wp2_with (fail)
  refine AC.out.mono ?_
  rintro e Y4 ⟨r3, rfl, hV, hC3⟩
  obtain ⟨no3, co3, n3, k3, o3, d3', rfl, hM3, hN3, hO3⟩ := hV
  have hK3 := mkHid (bt2 (bt2 (bal ((Y3.alloc (.cells #[.int .i64 0, .slice no2 n2 k2, .slice co2 o2 d2', .int .i64 (-k - 1), .int .i64 0] 26))) (.cells #[d0, d1, d2, d3, c0, c1, c2, c3] 35)) hC3) (bal Y4 (.cells #[.int .i64 0, .slice no3 n3 k3, .slice co3 o3 d3', .int .i64 (-k - 1), .int .i64 0] 26)))
  have bel4 := mkHid (bt2 bel3.out hK3.out)
  have fs_4 := mkHid (fs_3.out.keep hK3.out)
  have ft_4 := mkHid (ft_3.out.keep hK3.out)
  replace p_le := mkHid (p_le.out.keep hK3.out)
  replace p_ge := mkHid (p_ge.out.keep hK3.out)
  replace p_lt := mkHid (p_lt.out.keep hK3.out)
  have p_gt := mkHid (rb_new Y4 #[.int .i64 0, .slice no3 n3 k3, .slice co3 o3 d3', .int .i64 (-k - 1), .int .i64 0] 26)
  have q4 : Hid (w.heap.size + 2 ≤ Y4.heap.size) := by have h1 := hC3.size; have h2 := q3.out; simp only [World.size_alloc] at h1; show _ ≤ _; omega
  have zz3 : Hid (Y3.heap.size + 1 ≤ Y4.heap.size) := by have h1 := hC3.size; simp only [World.size_alloc] at h1; show _ ≤ _; omega
  clear AC wlt xs0 xs1 xs2 xs3 xt0 xt1 xt2 xt3 fs_3 ft_3 bel3 hC3
  replace hM3 := mkHid hM3
  replace hN3 := mkHid hN3
  replace hO3 := mkHid hO3
  have xs0 : ((Y4.alloc (.cells #[.int .i64 0, .slice no3 n3 k3, .slice co3 o3 d3', .int .i64 (-k - 1), .int .i64 0] 26))).cell? ⟨w.heap.size, 0, none⟩ = some c0 := (txcell (vs := #[c0, c1, c2, c3]) fs_4.out 0 _ rfl).1
  have xt0 : ((Y4.alloc (.cells #[.int .i64 0, .slice no3 n3 k3, .slice co3 o3 d3', .int .i64 (-k - 1), .int .i64 0] 26))).cell? ⟨w.heap.size + 1, 0, none⟩ = some d0 := (txcell (vs := #[d0, d1, d2, d3]) ft_4.out 0 _ rfl).1
  have xs1 : ((Y4.alloc (.cells #[.int .i64 0, .slice no3 n3 k3, .slice co3 o3 d3', .int .i64 (-k - 1), .int .i64 0] 26))).cell? ⟨w.heap.size, 1, none⟩ = some c1 := (txcell (vs := #[c0, c1, c2, c3]) fs_4.out 1 _ rfl).1
  have xt1 : ((Y4.alloc (.cells #[.int .i64 0, .slice no3 n3 k3, .slice co3 o3 d3', .int .i64 (-k - 1), .int .i64 0] 26))).cell? ⟨w.heap.size + 1, 1, none⟩ = some d1 := (txcell (vs := #[d0, d1, d2, d3]) ft_4.out 1 _ rfl).1
  have xs2 : ((Y4.alloc (.cells #[.int .i64 0, .slice no3 n3 k3, .slice co3 o3 d3', .int .i64 (-k - 1), .int .i64 0] 26))).cell? ⟨w.heap.size, 2, none⟩ = some c2 := (txcell (vs := #[c0, c1, c2, c3]) fs_4.out 2 _ rfl).1
  have xt2 : ((Y4.alloc (.cells #[.int .i64 0, .slice no3 n3 k3, .slice co3 o3 d3', .int .i64 (-k - 1), .int .i64 0] 26))).cell? ⟨w.heap.size + 1, 2, none⟩ = some d2 := (txcell (vs := #[d0, d1, d2, d3]) ft_4.out 2 _ rfl).1
  have xs3 : ((Y4.alloc (.cells #[.int .i64 0, .slice no3 n3 k3, .slice co3 o3 d3', .int .i64 (-k - 1), .int .i64 0] 26))).cell? ⟨w.heap.size, 3, none⟩ = some c3 := (txcell (vs := #[c0, c1, c2, c3]) fs_4.out 3 _ rfl).1
  have xt3 : ((Y4.alloc (.cells #[.int .i64 0, .slice no3 n3 k3, .slice co3 o3 d3', .int .i64 (-k - 1), .int .i64 0] 26))).cell? ⟨w.heap.size + 1, 3, none⟩ = some d3 := (txcell (vs := #[d0, d1, d2, d3]) ft_4.out 3 _ rfl).1
  have AC := mkHid (atom_any _ (tA 13 s t) _ _ (mk_atom (W := (Y4.alloc (.cells #[.int .i64 0, .slice no3 n3 k3, .slice co3 o3 d3', .int .i64 (-k - 1), .int .i64 0] 26))) (T := 35) (RdT.kept bel4.out s _ _ _ _ HRS.out) (RdT.kept bel4.out t _ _ _ _ HRT.out) 13 ⟨by decide, by decide⟩ (show _ = Y4.heap.size + 1 by simp)) (Below.refl _ _))
  rw [HH13.out] at AC
  have wlt : w.heap.size + 2 ≤ Y4.heap.size := q4.out
  go_wp2_with (fail)
  refine AC.out.mono ?_
  rintro e Y5 ⟨r4, rfl, hV, hC4⟩
  obtain ⟨no4, co4, n4, k4, o4, d4', rfl, hM4, hN4, hO4⟩ := hV
  have hK4 := mkHid (bt2 (bt2 (bal ((Y4.alloc (.cells #[.int .i64 0, .slice no3 n3 k3, .slice co3 o3 d3', .int .i64 (-k - 1), .int .i64 0] 26))) (.cells #[c0, c1, c2, c3, d0, d1, d2, d3] 35)) hC4) (bal Y5 (.cells #[.int .i64 1, .slice no4 n4 k4, .slice co4 o4 d4', .int .i64 (-k), .int .i64 0] 26)))
  have bel5 := mkHid (bt2 bel4.out hK4.out)
  have fs_5 := mkHid (fs_4.out.keep hK4.out)
  have ft_5 := mkHid (ft_4.out.keep hK4.out)
  replace p_le := mkHid (p_le.out.keep hK4.out)
  replace p_ge := mkHid (p_ge.out.keep hK4.out)
  replace p_lt := mkHid (p_lt.out.keep hK4.out)
  replace p_gt := mkHid (p_gt.out.keep hK4.out)
  have p_eq := mkHid (rb_new Y5 #[.int .i64 1, .slice no4 n4 k4, .slice co4 o4 d4', .int .i64 (-k), .int .i64 0] 26)
  have q5 : Hid (w.heap.size + 2 ≤ Y5.heap.size) := by have h1 := hC4.size; have h2 := q4.out; simp only [World.size_alloc] at h1; show _ ≤ _; omega
  have zz4 : Hid (Y4.heap.size + 1 ≤ Y5.heap.size) := by have h1 := hC4.size; simp only [World.size_alloc] at h1; show _ ≤ _; omega
  clear AC wlt xs0 xs1 xs2 xs3 xt0 xt1 xt2 xt3 fs_4 ft_4 bel4 hC4
  replace hM4 := mkHid hM4
  replace hN4 := mkHid hN4
  replace hO4 := mkHid hO4
  have xs0 : ((Y5.alloc (.cells #[.int .i64 1, .slice no4 n4 k4, .slice co4 o4 d4', .int .i64 (-k), .int .i64 0] 26))).cell? ⟨w.heap.size, 0, none⟩ = some c0 := (txcell (vs := #[c0, c1, c2, c3]) fs_5.out 0 _ rfl).1
  have xt0 : ((Y5.alloc (.cells #[.int .i64 1, .slice no4 n4 k4, .slice co4 o4 d4', .int .i64 (-k), .int .i64 0] 26))).cell? ⟨w.heap.size + 1, 0, none⟩ = some d0 := (txcell (vs := #[d0, d1, d2, d3]) ft_5.out 0 _ rfl).1
  have xs1 : ((Y5.alloc (.cells #[.int .i64 1, .slice no4 n4 k4, .slice co4 o4 d4', .int .i64 (-k), .int .i64 0] 26))).cell? ⟨w.heap.size, 1, none⟩ = some c1 := (txcell (vs := #[c0, c1, c2, c3]) fs_5.out 1 _ rfl).1
  have xt1 : ((Y5.alloc (.cells #[.int .i64 1, .slice no4 n4 k4, .slice co4 o4 d4', .int .i64 (-k), .int .i64 0] 26))).cell? ⟨w.heap.size + 1, 1, none⟩ = some d1 := (txcell (vs := #[d0, d1, d2, d3]) ft_5.out 1 _ rfl).1
  have xs2 : ((Y5.alloc (.cells #[.int .i64 1, .slice no4 n4 k4, .slice co4 o4 d4', .int .i64 (-k), .int .i64 0] 26))).cell? ⟨w.heap.size, 2, none⟩ = some c2 := (txcell (vs := #[c0, c1, c2, c3]) fs_5.out 2 _ rfl).1
  have xt2 : ((Y5.alloc (.cells #[.int .i64 1, .slice no4 n4 k4, .slice co4 o4 d4', .int .i64 (-k), .int .i64 0] 26))).cell? ⟨w.heap.size + 1, 2, none⟩ = some d2 := (txcell (vs := #[d0, d1, d2, d3]) ft_5.out 2 _ rfl).1
  have xs3 : ((Y5.alloc (.cells #[.int .i64 1, .slice no4 n4 k4, .slice co4 o4 d4', .int .i64 (-k), .int .i64 0] 26))).cell? ⟨w.heap.size, 3, none⟩ = some c3 := (txcell (vs := #[c0, c1, c2, c3]) fs_5.out 3 _ rfl).1
  have xt3 : ((Y5.alloc (.cells #[.int .i64 1, .slice no4 n4 k4, .slice co4 o4 d4', .int .i64 (-k), .int .i64 0] 26))).cell? ⟨w.heap.size + 1, 3, none⟩ = some d3 := (txcell (vs := #[d0, d1, d2, d3]) ft_5.out 3 _ rfl).1
  have AC := mkHid (atom_any _ (tA 14 s t) _ _ (mk_atom (W := (Y5.alloc (.cells #[.int .i64 1, .slice no4 n4 k4, .slice co4 o4 d4', .int .i64 (-k), .int .i64 0] 26))) (T := 35) (RdT.kept bel5.out s _ _ _ _ HRS.out) (RdT.kept bel5.out t _ _ _ _ HRT.out) 14 ⟨by decide, by decide⟩ (show _ = Y5.heap.size + 1 by simp)) (Below.refl _ _))
  rw [HH14.out] at AC
  have wlt : w.heap.size + 2 ≤ Y5.heap.size := q5.out
  go_wp2_with (fail)
  refine AC.out.mono ?_
  rintro e Y6 ⟨r5, rfl, hV, hC5⟩
  obtain ⟨no5, co5, n5, k5, o5, d5', rfl, hM5, hN5, hO5⟩ := hV
  have hK5 := mkHid (bt2 (bt2 (bal ((Y5.alloc (.cells #[.int .i64 1, .slice no4 n4 k4, .slice co4 o4 d4', .int .i64 (-k), .int .i64 0] 26))) (.cells #[c0, c1, c2, c3, d0, d1, d2, d3] 35)) hC5) (bal Y6 (.cells #[.int .i64 1, .slice no5 n5 k5, .slice co5 o5 d5', .int .i64 (-k), .int .i64 0] 26)))
  have bel6 := mkHid (bt2 bel5.out hK5.out)
  have fs_6 := mkHid (fs_5.out.keep hK5.out)
  have ft_6 := mkHid (ft_5.out.keep hK5.out)
  replace p_le := mkHid (p_le.out.keep hK5.out)
  replace p_ge := mkHid (p_ge.out.keep hK5.out)
  replace p_lt := mkHid (p_lt.out.keep hK5.out)
  replace p_gt := mkHid (p_gt.out.keep hK5.out)
  replace p_eq := mkHid (p_eq.out.keep hK5.out)
  have p_ne := mkHid (rb_new Y6 #[.int .i64 1, .slice no5 n5 k5, .slice co5 o5 d5', .int .i64 (-k), .int .i64 0] 26)
  have q6 : Hid (w.heap.size + 2 ≤ Y6.heap.size) := by have h1 := hC5.size; have h2 := q5.out; simp only [World.size_alloc] at h1; show _ ≤ _; omega
  have zz5 : Hid (Y5.heap.size + 1 ≤ Y6.heap.size) := by have h1 := hC5.size; simp only [World.size_alloc] at h1; show _ ≤ _; omega
  clear AC wlt xs0 xs1 xs2 xs3 xt0 xt1 xt2 xt3 fs_5 ft_5 bel5 hC5
  replace hM5 := mkHid hM5
  replace hN5 := mkHid hN5
  replace hO5 := mkHid hO5
  replace hK0 := hK0.out
  replace hK1 := hK1.out
  replace hK2 := hK2.out
  replace hK3 := hK3.out
  replace hK4 := hK4.out
  replace hK5 := hK5.out
  replace p_le := p_le.out
  replace p_ge := p_ge.out
  replace p_lt := p_lt.out
  replace p_gt := p_gt.out
  replace p_eq := p_eq.out
  replace p_ne := p_ne.out
  replace bel6 := bel6.out
  replace hM0 := hM0.out
  replace hN0 := hN0.out
  replace hO0 := hO0.out
  replace hM1 := hM1.out
  replace hN1 := hN1.out
  replace hO1 := hO1.out
  replace hM2 := hM2.out
  replace hN2 := hN2.out
  replace hO2 := hO2.out
  replace hM3 := hM3.out
  replace hN3 := hN3.out
  replace hO3 := hO3.out
  replace hM4 := hM4.out
  replace hN4 := hN4.out
  replace hO4 := hO4.out
  replace hM5 := hM5.out
  replace hN5 := hN5.out
  replace hO5 := hO5.out
  replace zz1 := zz1.out
  replace zz2 := zz2.out
  replace zz3 := zz3.out
  replace zz4 := zz4.out
  replace zz5 := zz5.out
  have gq := q1.out
  have g6 : Below Y6.heap.size Y6 (Y6.alloc (.cells #[.int .i64 1, .slice no5 n5 k5, .slice co5 o5 d5', .int .i64 (-k), .int .i64 0] 26)) := bal _ _
  have g5 : Below Y5.heap.size Y5 (Y6.alloc (.cells #[.int .i64 1, .slice no5 n5 k5, .slice co5 o5 d5', .int .i64 (-k), .int .i64 0] 26)) := bt2 (bal Y5 (.cells #[.int .i64 1, .slice no4 n4 k4, .slice co4 o4 d4', .int .i64 (-k), .int .i64 0] 26)) hK5
  have g4 : Below Y4.heap.size Y4 (Y5.alloc (.cells #[.int .i64 1, .slice no4 n4 k4, .slice co4 o4 d4', .int .i64 (-k), .int .i64 0] 26)) := bt2 (bal Y4 (.cells #[.int .i64 0, .slice no3 n3 k3, .slice co3 o3 d3', .int .i64 (-k - 1), .int .i64 0] 26)) hK4
  replace g4 := bt2 g4 hK5
  have g3 : Below Y3.heap.size Y3 (Y4.alloc (.cells #[.int .i64 0, .slice no3 n3 k3, .slice co3 o3 d3', .int .i64 (-k - 1), .int .i64 0] 26)) := bt2 (bal Y3 (.cells #[.int .i64 0, .slice no2 n2 k2, .slice co2 o2 d2', .int .i64 (-k - 1), .int .i64 0] 26)) hK3
  replace g3 := bt2 g3 hK4
  replace g3 := bt2 g3 hK5
  have g2 : Below Y2.heap.size Y2 (Y3.alloc (.cells #[.int .i64 0, .slice no2 n2 k2, .slice co2 o2 d2', .int .i64 (-k - 1), .int .i64 0] 26)) := bt2 (bal Y2 (.cells #[.int .i64 0, .slice no1 n1 k1, .slice co1 o1 d1', .int .i64 (-k), .int .i64 0] 26)) hK2
  replace g2 := bt2 g2 hK3
  replace g2 := bt2 g2 hK4
  replace g2 := bt2 g2 hK5
  have g1 : Below Y1.heap.size Y1 (Y2.alloc (.cells #[.int .i64 0, .slice no1 n1 k1, .slice co1 o1 d1', .int .i64 (-k), .int .i64 0] 26)) := bt2 (bal Y1 (.cells #[.int .i64 0, .slice no0 n0 k0, .slice co0 o0 d0', .int .i64 (-k), .int .i64 0] 26)) hK1
  replace g1 := bt2 g1 hK2
  replace g1 := bt2 g1 hK3
  replace g1 := bt2 g1 hK4
  replace g1 := bt2 g1 hK5
  clear fs_6 ft_6 HRS HRT
  have wlt : w.heap.size + 2 ≤ Y6.heap.size := q6.out
  clear hK0 hK1 hK2 hK3 hK4 hK5
  have acc0 := Below.refl ((Y6.alloc (.cells #[.int .i64 1, .slice no5 n5 k5, .slice co5 o5 d5', .int .i64 (-k), .int .i64 0] 26))).heap.size ((Y6.alloc (.cells #[.int .i64 1, .slice no5 n5 k5, .slice co5 o5 d5', .int .i64 (-k), .int .i64 0] 26)))
  have f_eq0 : (Y6.alloc (.cells #[.int .i64 1, .slice no5 n5 k5, .slice co5 o5 d5', .int .i64 (-k), .int .i64 0] 26)).cell? ⟨Y5.heap.size, 0, none⟩ = some (.int .i64 1) := (txcell (vs := #[.int .i64 1, .slice no4 n4 k4, .slice co4 o4 d4', .int .i64 (-k), .int .i64 0]) p_eq 0 _ rfl).1
  have f_eq1 : (Y6.alloc (.cells #[.int .i64 1, .slice no5 n5 k5, .slice co5 o5 d5', .int .i64 (-k), .int .i64 0] 26)).cell? ⟨Y5.heap.size, 1, none⟩ = some (.slice no4 n4 k4) := (txcell (vs := #[.int .i64 1, .slice no4 n4 k4, .slice co4 o4 d4', .int .i64 (-k), .int .i64 0]) p_eq 1 _ rfl).1
  have f_eq2 : (Y6.alloc (.cells #[.int .i64 1, .slice no5 n5 k5, .slice co5 o5 d5', .int .i64 (-k), .int .i64 0] 26)).cell? ⟨Y5.heap.size, 2, none⟩ = some (.slice co4 o4 d4') := (txcell (vs := #[.int .i64 1, .slice no4 n4 k4, .slice co4 o4 d4', .int .i64 (-k), .int .i64 0]) p_eq 2 _ rfl).1
  have f_eq3 : (Y6.alloc (.cells #[.int .i64 1, .slice no5 n5 k5, .slice co5 o5 d5', .int .i64 (-k), .int .i64 0] 26)).cell? ⟨Y5.heap.size, 3, none⟩ = some (.int .i64 (-k)) := (txcell (vs := #[.int .i64 1, .slice no4 n4 k4, .slice co4 o4 d4', .int .i64 (-k), .int .i64 0]) p_eq 3 _ rfl).1
  have f_eq4 : (Y6.alloc (.cells #[.int .i64 1, .slice no5 n5 k5, .slice co5 o5 d5', .int .i64 (-k), .int .i64 0] 26)).cell? ⟨Y5.heap.size, 4, none⟩ = some (.int .i64 0) := (txcell (vs := #[.int .i64 1, .slice no4 n4 k4, .slice co4 o4 d4', .int .i64 (-k), .int .i64 0]) p_eq 4 _ rfl).1
  have f_ne0 : (Y6.alloc (.cells #[.int .i64 1, .slice no5 n5 k5, .slice co5 o5 d5', .int .i64 (-k), .int .i64 0] 26)).cell? ⟨Y6.heap.size, 0, none⟩ = some (.int .i64 1) := (txcell (vs := #[.int .i64 1, .slice no5 n5 k5, .slice co5 o5 d5', .int .i64 (-k), .int .i64 0]) p_ne 0 _ rfl).1
  have f_ne1 : (Y6.alloc (.cells #[.int .i64 1, .slice no5 n5 k5, .slice co5 o5 d5', .int .i64 (-k), .int .i64 0] 26)).cell? ⟨Y6.heap.size, 1, none⟩ = some (.slice no5 n5 k5) := (txcell (vs := #[.int .i64 1, .slice no5 n5 k5, .slice co5 o5 d5', .int .i64 (-k), .int .i64 0]) p_ne 1 _ rfl).1
  have f_ne2 : (Y6.alloc (.cells #[.int .i64 1, .slice no5 n5 k5, .slice co5 o5 d5', .int .i64 (-k), .int .i64 0] 26)).cell? ⟨Y6.heap.size, 2, none⟩ = some (.slice co5 o5 d5') := (txcell (vs := #[.int .i64 1, .slice no5 n5 k5, .slice co5 o5 d5', .int .i64 (-k), .int .i64 0]) p_ne 2 _ rfl).1
  have f_ne3 : (Y6.alloc (.cells #[.int .i64 1, .slice no5 n5 k5, .slice co5 o5 d5', .int .i64 (-k), .int .i64 0] 26)).cell? ⟨Y6.heap.size, 3, none⟩ = some (.int .i64 (-k)) := (txcell (vs := #[.int .i64 1, .slice no5 n5 k5, .slice co5 o5 d5', .int .i64 (-k), .int .i64 0]) p_ne 3 _ rfl).1
  have f_ne4 : (Y6.alloc (.cells #[.int .i64 1, .slice no5 n5 k5, .slice co5 o5 d5', .int .i64 (-k), .int .i64 0] 26)).cell? ⟨Y6.heap.size, 4, none⟩ = some (.int .i64 0) := (txcell (vs := #[.int .i64 1, .slice no5 n5 k5, .slice co5 o5 d5', .int .i64 (-k), .int .i64 0]) p_ne 4 _ rfl).1
  have NY := mkHid (normals_yes 1 (-k) 0 _ _ no4 no5 co4 co5 n4 k4 o4 d4' n5 k5 o5 d5' (Y6.alloc (.cells #[.int .i64 1, .slice no5 n5 k5, .slice co5 o5 d5', .int .i64 (-k), .int .i64 0] 26)) (hM4.ns.below (Nat.le_refl _) (bt2 g5 acc0)) (hM5.ns.below (Nat.le_refl _) (bt2 g6 acc0)) (hM4.cs.below (Nat.le_refl _) (bt2 g5 acc0)) (hM5.cs.below (Nat.le_refl _) (bt2 g6 acc0)))
  go_wp2_with (fail)
  refine NY.out.mono ?_
  rintro e u1 ⟨rfl, hU1⟩
  have acc1 := bt2 acc0 hU1
  replace p_le := p_le.keep hU1
  replace p_ge := p_ge.keep hU1
  replace p_lt := p_lt.keep hU1
  replace p_gt := p_gt.keep hU1
  replace p_eq := p_eq.keep hU1
  replace p_ne := p_ne.keep hU1
  clear NY f_eq0 f_eq1 f_eq2 f_eq3 f_eq4 f_ne0 f_ne1 f_ne2 f_ne3 f_ne4
  have f_le0 : u1.cell? ⟨Y1.heap.size, 0, none⟩ = some (.int .i64 0) := (txcell (vs := #[.int .i64 0, .slice no0 n0 k0, .slice co0 o0 d0', .int .i64 (-k), .int .i64 0]) p_le 0 _ rfl).1
  have f_le1 : u1.cell? ⟨Y1.heap.size, 1, none⟩ = some (.slice no0 n0 k0) := (txcell (vs := #[.int .i64 0, .slice no0 n0 k0, .slice co0 o0 d0', .int .i64 (-k), .int .i64 0]) p_le 1 _ rfl).1
  have f_le2 : u1.cell? ⟨Y1.heap.size, 2, none⟩ = some (.slice co0 o0 d0') := (txcell (vs := #[.int .i64 0, .slice no0 n0 k0, .slice co0 o0 d0', .int .i64 (-k), .int .i64 0]) p_le 2 _ rfl).1
  have f_le3 : u1.cell? ⟨Y1.heap.size, 3, none⟩ = some (.int .i64 (-k)) := (txcell (vs := #[.int .i64 0, .slice no0 n0 k0, .slice co0 o0 d0', .int .i64 (-k), .int .i64 0]) p_le 3 _ rfl).1
  have f_le4 : u1.cell? ⟨Y1.heap.size, 4, none⟩ = some (.int .i64 0) := (txcell (vs := #[.int .i64 0, .slice no0 n0 k0, .slice co0 o0 d0', .int .i64 (-k), .int .i64 0]) p_le 4 _ rfl).1
  have f_ge0 : u1.cell? ⟨Y2.heap.size, 0, none⟩ = some (.int .i64 0) := (txcell (vs := #[.int .i64 0, .slice no1 n1 k1, .slice co1 o1 d1', .int .i64 (-k), .int .i64 0]) p_ge 0 _ rfl).1
  have f_ge1 : u1.cell? ⟨Y2.heap.size, 1, none⟩ = some (.slice no1 n1 k1) := (txcell (vs := #[.int .i64 0, .slice no1 n1 k1, .slice co1 o1 d1', .int .i64 (-k), .int .i64 0]) p_ge 1 _ rfl).1
  have f_ge2 : u1.cell? ⟨Y2.heap.size, 2, none⟩ = some (.slice co1 o1 d1') := (txcell (vs := #[.int .i64 0, .slice no1 n1 k1, .slice co1 o1 d1', .int .i64 (-k), .int .i64 0]) p_ge 2 _ rfl).1
  have f_ge3 : u1.cell? ⟨Y2.heap.size, 3, none⟩ = some (.int .i64 (-k)) := (txcell (vs := #[.int .i64 0, .slice no1 n1 k1, .slice co1 o1 d1', .int .i64 (-k), .int .i64 0]) p_ge 3 _ rfl).1
  have f_ge4 : u1.cell? ⟨Y2.heap.size, 4, none⟩ = some (.int .i64 0) := (txcell (vs := #[.int .i64 0, .slice no1 n1 k1, .slice co1 o1 d1', .int .i64 (-k), .int .i64 0]) p_ge 4 _ rfl).1
  have NY := mkHid (normals_yes 0 (-k) 0 _ _ no0 no1 co0 co1 n0 k0 o0 d0' n1 k1 o1 d1' u1 (hM0.ns.below (Nat.le_refl _) (bt2 g1 acc1)) (hM1.ns.below (Nat.le_refl _) (bt2 g2 acc1)) (hM0.cs.below (Nat.le_refl _) (bt2 g1 acc1)) (hM1.cs.below (Nat.le_refl _) (bt2 g2 acc1)))
  go_wp2_with (fail)
  refine NY.out.mono ?_
  rintro e u2 ⟨rfl, hU2⟩
  have acc2 := bt2 acc1 hU2
  replace p_le := p_le.keep hU2
  replace p_ge := p_ge.keep hU2
  replace p_lt := p_lt.keep hU2
  replace p_gt := p_gt.keep hU2
  replace p_eq := p_eq.keep hU2
  replace p_ne := p_ne.keep hU2
  clear NY f_le0 f_le1 f_le2 f_le3 f_le4 f_ge0 f_ge1 f_ge2 f_ge3 f_ge4
  have f_lt0 : u2.cell? ⟨Y3.heap.size, 0, none⟩ = some (.int .i64 0) := (txcell (vs := #[.int .i64 0, .slice no2 n2 k2, .slice co2 o2 d2', .int .i64 (-k - 1), .int .i64 0]) p_lt 0 _ rfl).1
  have f_lt1 : u2.cell? ⟨Y3.heap.size, 1, none⟩ = some (.slice no2 n2 k2) := (txcell (vs := #[.int .i64 0, .slice no2 n2 k2, .slice co2 o2 d2', .int .i64 (-k - 1), .int .i64 0]) p_lt 1 _ rfl).1
  have f_lt2 : u2.cell? ⟨Y3.heap.size, 2, none⟩ = some (.slice co2 o2 d2') := (txcell (vs := #[.int .i64 0, .slice no2 n2 k2, .slice co2 o2 d2', .int .i64 (-k - 1), .int .i64 0]) p_lt 2 _ rfl).1
  have f_lt3 : u2.cell? ⟨Y3.heap.size, 3, none⟩ = some (.int .i64 (-k - 1)) := (txcell (vs := #[.int .i64 0, .slice no2 n2 k2, .slice co2 o2 d2', .int .i64 (-k - 1), .int .i64 0]) p_lt 3 _ rfl).1
  have f_lt4 : u2.cell? ⟨Y3.heap.size, 4, none⟩ = some (.int .i64 0) := (txcell (vs := #[.int .i64 0, .slice no2 n2 k2, .slice co2 o2 d2', .int .i64 (-k - 1), .int .i64 0]) p_lt 4 _ rfl).1
  have f_gt0 : u2.cell? ⟨Y4.heap.size, 0, none⟩ = some (.int .i64 0) := (txcell (vs := #[.int .i64 0, .slice no3 n3 k3, .slice co3 o3 d3', .int .i64 (-k - 1), .int .i64 0]) p_gt 0 _ rfl).1
  have f_gt1 : u2.cell? ⟨Y4.heap.size, 1, none⟩ = some (.slice no3 n3 k3) := (txcell (vs := #[.int .i64 0, .slice no3 n3 k3, .slice co3 o3 d3', .int .i64 (-k - 1), .int .i64 0]) p_gt 1 _ rfl).1
  have f_gt2 : u2.cell? ⟨Y4.heap.size, 2, none⟩ = some (.slice co3 o3 d3') := (txcell (vs := #[.int .i64 0, .slice no3 n3 k3, .slice co3 o3 d3', .int .i64 (-k - 1), .int .i64 0]) p_gt 2 _ rfl).1
  have f_gt3 : u2.cell? ⟨Y4.heap.size, 3, none⟩ = some (.int .i64 (-k - 1)) := (txcell (vs := #[.int .i64 0, .slice no3 n3 k3, .slice co3 o3 d3', .int .i64 (-k - 1), .int .i64 0]) p_gt 3 _ rfl).1
  have f_gt4 : u2.cell? ⟨Y4.heap.size, 4, none⟩ = some (.int .i64 0) := (txcell (vs := #[.int .i64 0, .slice no3 n3 k3, .slice co3 o3 d3', .int .i64 (-k - 1), .int .i64 0]) p_gt 4 _ rfl).1
  have NY := mkHid (normals_yes 0 (-k - 1) 0 _ _ no2 no3 co2 co3 n2 k2 o2 d2' n3 k3 o3 d3' u2 (hM2.ns.below (Nat.le_refl _) (bt2 g3 acc2)) (hM3.ns.below (Nat.le_refl _) (bt2 g4 acc2)) (hM2.cs.below (Nat.le_refl _) (bt2 g3 acc2)) (hM3.cs.below (Nat.le_refl _) (bt2 g4 acc2)))
  go_wp2_with (fail)
  refine NY.out.mono ?_
  rintro e u3 ⟨rfl, hU3⟩
  have acc3 := bt2 acc2 hU3
  replace p_le := p_le.keep hU3
  replace p_ge := p_ge.keep hU3
  replace p_lt := p_lt.keep hU3
  replace p_gt := p_gt.keep hU3
  replace p_eq := p_eq.keep hU3
  replace p_ne := p_ne.keep hU3
  clear NY f_lt0 f_lt1 f_lt2 f_lt3 f_lt4 f_gt0 f_gt1 f_gt2 f_gt3 f_gt4
  have hkI : I64 (-k) := hM0.bd
  have hw : wrap64 (-k - 1 + 1) = -k := by unfold wrap64; have := hkI.1; have := hkI.2; omega
  have hw1 : (-k - 1 + 1 : Int) = -k := by omega
  have f_lt3 : u3.cell? ⟨Y3.heap.size, 3, none⟩ = some (.int .i64 (-k - 1)) ∧ u3.frozen? ⟨Y3.heap.size, 3, none⟩ = false := txcell (vs := #[.int .i64 0, .slice no2 n2 k2, .slice co2 o2 d2', .int .i64 (-k - 1), .int .i64 0]) p_lt 3 _ rfl
  have q_lt : Rb (u3.setCell ⟨Y3.heap.size, 3, none⟩ (.int .i64 (-k))) Y3.heap.size #[.int .i64 0, .slice no2 n2 k2, .slice co2 o2 d2', .int .i64 (-k), .int .i64 0] 26 := tx_set p_lt 3 (.int .i64 (-k))
  have q_eq := p_eq.other (X := Y3.heap.size) (by omega) 3 (.int .i64 (-k))
  have q_le := p_le.other (X := Y3.heap.size) (by omega) 3 (.int .i64 (-k))
  have f_eq0 : (u3.setCell ⟨Y3.heap.size, 3, none⟩ (.int .i64 (-k))).cell? ⟨Y5.heap.size, 0, none⟩ = some (.int .i64 1) ∧ (u3.setCell ⟨Y3.heap.size, 3, none⟩ (.int .i64 (-k))).frozen? ⟨Y5.heap.size, 0, none⟩ = false := txcell (vs := #[.int .i64 1, .slice no4 n4 k4, .slice co4 o4 d4', .int .i64 (-k), .int .i64 0]) q_eq 0 _ rfl
  have s_eq : Rb ((u3.setCell ⟨Y3.heap.size, 3, none⟩ (.int .i64 (-k))).setCell ⟨Y5.heap.size, 0, none⟩ (.int .i64 0)) Y5.heap.size #[.int .i64 0, .slice no4 n4 k4, .slice co4 o4 d4', .int .i64 (-k), .int .i64 0] 26 := tx_set q_eq 0 (.int .i64 0)
  have s_lt := q_lt.other (X := Y5.heap.size) (by omega) 0 (.int .i64 0)
  have s_le := q_le.other (X := Y5.heap.size) (by omega) 0 (.int .i64 0)
  have b1 : Below Y1.heap.size Y1 ((u3.setCell ⟨Y3.heap.size, 3, none⟩ (.int .i64 (-k))).setCell ⟨Y5.heap.size, 0, none⟩ (.int .i64 0)) := ((bt2 g1 acc3).setCell (p := ⟨Y3.heap.size, 3, none⟩) (by show Y1.heap.size ≤ Y3.heap.size; omega) _).setCell (p := ⟨Y5.heap.size, 0, none⟩) (by show Y1.heap.size ≤ Y5.heap.size; omega) _
  have b3 : Below Y3.heap.size Y3 ((u3.setCell ⟨Y3.heap.size, 3, none⟩ (.int .i64 (-k))).setCell ⟨Y5.heap.size, 0, none⟩ (.int .i64 0)) := ((bt2 g3 acc3).setCell (p := ⟨Y3.heap.size, 3, none⟩) (Nat.le_refl _) _).setCell (p := ⟨Y5.heap.size, 0, none⟩) (by show Y3.heap.size ≤ Y5.heap.size; omega) _
  have b5 : Bux Y3.heap.size Y5 ((u3.setCell ⟨Y3.heap.size, 3, none⟩ (.int .i64 (-k))).setCell ⟨Y5.heap.size, 0, none⟩ (.int .i64 0)) := but_new ((Bux.of (bt2 g5 acc3)).set 3 (.int .i64 (-k))) (Nat.le_refl _) 0 (.int .i64 0)
  have bz : Below w.heap.size w ((u3.setCell ⟨Y3.heap.size, 3, none⟩ (.int .i64 (-k))).setCell ⟨Y5.heap.size, 0, none⟩ (.int .i64 0)) := ((bt2 bel6 acc3).setCell (p := ⟨Y3.heap.size, 3, none⟩) (by show w.heap.size ≤ Y3.heap.size; omega) _).setCell (p := ⟨Y5.heap.size, 0, none⟩) (by show w.heap.size ≤ Y5.heap.size; omega) _
  have N1 := mkHid (normals_yes 0 (-k) 0 _ _ no2 no0 co2 co0 n2 k2 o2 d2' n0 k0 o0 d0' ((u3.setCell ⟨Y3.heap.size, 3, none⟩ (.int .i64 (-k))).setCell ⟨Y5.heap.size, 0, none⟩ (.int .i64 0)) (hM2.ns.below (Nat.le_refl _) b3) (hM0.ns.below (Nat.le_refl _) b1) (hM2.cs.below (Nat.le_refl _) b3) (hM0.cs.below (Nat.le_refl _) b1))
  have ns5 := rds_bux hM4.ns b5 (fun ad e => by have := hN4 ad e; simp only [World.size_alloc] at this; omega)
  have cs5 := rdz_bux hM4.cs b5 (fun ad e => by have := hO4 ad e; simp only [World.size_alloc] at this; omega)
  have ns1 := hM0.ns.below (Nat.le_refl _) b1
  have cs1 := hM0.cs.below (Nat.le_refl _) b1
  have f_lt0 : ((u3.setCell ⟨Y3.heap.size, 3, none⟩ (.int .i64 (-k))).setCell ⟨Y5.heap.size, 0, none⟩ (.int .i64 0)).cell? ⟨Y3.heap.size, 0, none⟩ = some (.int .i64 0) := (txcell (vs := #[.int .i64 0, .slice no2 n2 k2, .slice co2 o2 d2', .int .i64 (-k), .int .i64 0]) s_lt 0 _ rfl).1
  have f_lt1 : ((u3.setCell ⟨Y3.heap.size, 3, none⟩ (.int .i64 (-k))).setCell ⟨Y5.heap.size, 0, none⟩ (.int .i64 0)).cell? ⟨Y3.heap.size, 1, none⟩ = some (.slice no2 n2 k2) := (txcell (vs := #[.int .i64 0, .slice no2 n2 k2, .slice co2 o2 d2', .int .i64 (-k), .int .i64 0]) s_lt 1 _ rfl).1
  have f_lt2 : ((u3.setCell ⟨Y3.heap.size, 3, none⟩ (.int .i64 (-k))).setCell ⟨Y5.heap.size, 0, none⟩ (.int .i64 0)).cell? ⟨Y3.heap.size, 2, none⟩ = some (.slice co2 o2 d2') := (txcell (vs := #[.int .i64 0, .slice no2 n2 k2, .slice co2 o2 d2', .int .i64 (-k), .int .i64 0]) s_lt 2 _ rfl).1
  have f_lt9 : ((u3.setCell ⟨Y3.heap.size, 3, none⟩ (.int .i64 (-k))).setCell ⟨Y5.heap.size, 0, none⟩ (.int .i64 0)).cell? ⟨Y3.heap.size, 3, none⟩ = some (.int .i64 (-k)) := (txcell (vs := #[.int .i64 0, .slice no2 n2 k2, .slice co2 o2 d2', .int .i64 (-k), .int .i64 0]) s_lt 3 _ rfl).1
  have f_lt4 : ((u3.setCell ⟨Y3.heap.size, 3, none⟩ (.int .i64 (-k))).setCell ⟨Y5.heap.size, 0, none⟩ (.int .i64 0)).cell? ⟨Y3.heap.size, 4, none⟩ = some (.int .i64 0) := (txcell (vs := #[.int .i64 0, .slice no2 n2 k2, .slice co2 o2 d2', .int .i64 (-k), .int .i64 0]) s_lt 4 _ rfl).1
  have f_le0 : ((u3.setCell ⟨Y3.heap.size, 3, none⟩ (.int .i64 (-k))).setCell ⟨Y5.heap.size, 0, none⟩ (.int .i64 0)).cell? ⟨Y1.heap.size, 0, none⟩ = some (.int .i64 0) := (txcell (vs := #[.int .i64 0, .slice no0 n0 k0, .slice co0 o0 d0', .int .i64 (-k), .int .i64 0]) s_le 0 _ rfl).1
  have f_le1 : ((u3.setCell ⟨Y3.heap.size, 3, none⟩ (.int .i64 (-k))).setCell ⟨Y5.heap.size, 0, none⟩ (.int .i64 0)).cell? ⟨Y1.heap.size, 1, none⟩ = some (.slice no0 n0 k0) := (txcell (vs := #[.int .i64 0, .slice no0 n0 k0, .slice co0 o0 d0', .int .i64 (-k), .int .i64 0]) s_le 1 _ rfl).1
  have f_le2 : ((u3.setCell ⟨Y3.heap.size, 3, none⟩ (.int .i64 (-k))).setCell ⟨Y5.heap.size, 0, none⟩ (.int .i64 0)).cell? ⟨Y1.heap.size, 2, none⟩ = some (.slice co0 o0 d0') := (txcell (vs := #[.int .i64 0, .slice no0 n0 k0, .slice co0 o0 d0', .int .i64 (-k), .int .i64 0]) s_le 2 _ rfl).1
  have f_le3 : ((u3.setCell ⟨Y3.heap.size, 3, none⟩ (.int .i64 (-k))).setCell ⟨Y5.heap.size, 0, none⟩ (.int .i64 0)).cell? ⟨Y1.heap.size, 3, none⟩ = some (.int .i64 (-k)) := (txcell (vs := #[.int .i64 0, .slice no0 n0 k0, .slice co0 o0 d0', .int .i64 (-k), .int .i64 0]) s_le 3 _ rfl).1
  have f_le4 : ((u3.setCell ⟨Y3.heap.size, 3, none⟩ (.int .i64 (-k))).setCell ⟨Y5.heap.size, 0, none⟩ (.int .i64 0)).cell? ⟨Y1.heap.size, 4, none⟩ = some (.int .i64 0) := (txcell (vs := #[.int .i64 0, .slice no0 n0 k0, .slice co0 o0 d0', .int .i64 (-k), .int .i64 0]) s_le 4 _ rfl).1
  go_wp2_with (fail)
  refine N1.out.mono ?_
  rintro e u9 ⟨rfl, hU9⟩
  have t_eq := s_eq.keep hU9
  have t_le := s_le.keep hU9
  have l_eq0 : u9.cell? ⟨Y5.heap.size, 0, none⟩ = some (.int .i64 0) := (txcell (vs := #[.int .i64 0, .slice no4 n4 k4, .slice co4 o4 d4', .int .i64 (-k), .int .i64 0]) t_eq 0 _ rfl).1
  have l_eq1 : u9.cell? ⟨Y5.heap.size, 1, none⟩ = some (.slice no4 n4 k4) := (txcell (vs := #[.int .i64 0, .slice no4 n4 k4, .slice co4 o4 d4', .int .i64 (-k), .int .i64 0]) t_eq 1 _ rfl).1
  have l_eq2 : u9.cell? ⟨Y5.heap.size, 2, none⟩ = some (.slice co4 o4 d4') := (txcell (vs := #[.int .i64 0, .slice no4 n4 k4, .slice co4 o4 d4', .int .i64 (-k), .int .i64 0]) t_eq 2 _ rfl).1
  have l_eq3 : u9.cell? ⟨Y5.heap.size, 3, none⟩ = some (.int .i64 (-k)) := (txcell (vs := #[.int .i64 0, .slice no4 n4 k4, .slice co4 o4 d4', .int .i64 (-k), .int .i64 0]) t_eq 3 _ rfl).1
  have l_eq4 : u9.cell? ⟨Y5.heap.size, 4, none⟩ = some (.int .i64 0) := (txcell (vs := #[.int .i64 0, .slice no4 n4 k4, .slice co4 o4 d4', .int .i64 (-k), .int .i64 0]) t_eq 4 _ rfl).1
  have l_le0 : u9.cell? ⟨Y1.heap.size, 0, none⟩ = some (.int .i64 0) := (txcell (vs := #[.int .i64 0, .slice no0 n0 k0, .slice co0 o0 d0', .int .i64 (-k), .int .i64 0]) t_le 0 _ rfl).1
  have l_le1 : u9.cell? ⟨Y1.heap.size, 1, none⟩ = some (.slice no0 n0 k0) := (txcell (vs := #[.int .i64 0, .slice no0 n0 k0, .slice co0 o0 d0', .int .i64 (-k), .int .i64 0]) t_le 1 _ rfl).1
  have l_le2 : u9.cell? ⟨Y1.heap.size, 2, none⟩ = some (.slice co0 o0 d0') := (txcell (vs := #[.int .i64 0, .slice no0 n0 k0, .slice co0 o0 d0', .int .i64 (-k), .int .i64 0]) t_le 2 _ rfl).1
  have l_le3 : u9.cell? ⟨Y1.heap.size, 3, none⟩ = some (.int .i64 (-k)) := (txcell (vs := #[.int .i64 0, .slice no0 n0 k0, .slice co0 o0 d0', .int .i64 (-k), .int .i64 0]) t_le 3 _ rfl).1
  have l_le4 : u9.cell? ⟨Y1.heap.size, 4, none⟩ = some (.int .i64 0) := (txcell (vs := #[.int .i64 0, .slice no0 n0 k0, .slice co0 o0 d0', .int .i64 (-k), .int .i64 0]) t_le 4 _ rfl).1
  have N2 := mkHid (normals_yes 0 (-k) 0 _ _ no4 no0 co4 co0 n4 k4 o4 d4' n0 k0 o0 d0' u9 (ns5.below (Nat.le_refl _) hU9) (ns1.below (Nat.le_refl _) hU9) (cs5.below (Nat.le_refl _) hU9) (cs1.below (Nat.le_refl _) hU9))
  go_wp2_with (fail)
  refine N2.out.mono ?_
  rintro e u10 ⟨rfl, hU10⟩
  go_wp2_with (fail)
  go_ret
  exact ⟨rfl, bt2 (bt2 bz hU9) hU10⟩
end Go.Proofs.Ytiapkblebbcfbaa.Gl
/- NormTurns: the walk, whatever the terms. -/
namespace Go.Proofs.Ytiapkblebbcfbaa.Gl
open Go.RowKit
theorem turns_walk (s t : Tm) (v0 v1 : Value) (w : World) (hs : TmV w s v0) (ht : TmV w t v1) :
    Calls Try.prog 6 #[v0, v1] w fun e w' => e = .returned (.bool true) ∧ Below w.heap.size w w' := by
  obtain ⟨hle, hlt⟩ := six s t
  rcases hle with ⟨x, y, hx, hy, h9, h13, h14, h11⟩ | ⟨ns, cs, k, h9, h11, h13, h14, hlt2⟩
  · rcases hlt with ⟨x2, y2, hx2, hy2, h10, h12⟩ | ⟨N, h10, h12⟩
    · exact turns_ee s t v0 v1 w hs ht x y hx hy x2 y2 hx2 hy2 h9 h11 h13 h14 h10 h12
    · exact turns_eo s t v0 v1 w hs ht x y hx hy N h9 h11 h13 h14 h10 h12
  · rcases hlt2 with ⟨x2, y2, hx2, hy2, h10, h12⟩ | ⟨h10, h12⟩
    · exact turns_oe s t v0 v1 w hs ht ns cs k x2 y2 hx2 hy2 h9 h11 h13 h14 h10 h12
    · exact turns_oo s t v0 v1 w hs ht ns cs k h9 h11 h13 h14 h10 h12
end Go.Proofs.Ytiapkblebbcfbaa.Gl
