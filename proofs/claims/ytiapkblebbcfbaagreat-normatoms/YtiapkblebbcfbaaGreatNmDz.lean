/- NormTurns: what the six atoms come to; normals that are the same. -/
import Derived.Test.YtiapkblebbcfbaaGreatNmU
import Derived.Test.YtiapkblebbcfbaaGreatNmD15
namespace Go.Proofs.YtiapkblebbcfbaaGreat.Gl
open Go.RowKit
set_option linter.unusedVariables false
set_option linter.unusedSimpArgs false

abbrev tA (o : Int) (s t : Tm) : Fm := .mk o emp 0 [s, t] []
theorem wf_atom (nm : ByteArray → Bool) {o : Int} (h1 : 9 ≤ o) (h2 : o ≤ 14) : wF nm o emp 0 2 0 = true := by
  unfold wF
  rw [if_neg (by omega), if_neg (by omega), if_pos (by omega), if_pos h1, if_neg (by omega), if_neg (by omega)]
  decide +kernel
theorem chk_op (nm : ByteArray → Bool) (s t : Tm) {o : Int} (h1 : 9 ≤ o) (h2 : o ≤ 14) : chk nm (tA o s t) = chk nm (tA 9 s t) := by
  have e1 : wellF nm (tA o s t) = true := wf_atom nm h1 h2
  have e2 : wellF nm (tA 9 s t) = true := wf_atom nm (by decide) (by decide)
  unfold chk
  rw [meterF, meterF, e1, e2]
theorem chk_turn (s t : Tm) : chk nmB (tA 9 s t) = 0 ↔ chk nmB (tA 9 t s) = 0 := by
  have key : ∀ s t, chk nmB (tA 9 s t) = 0 → chk nmB (tA 9 t s) = 0 := fun s t h => by
    rw [chk_iff] at h ⊢
    obtain ⟨h1, h2, h3⟩ := h
    rw [Fm.size, Tm.sizeL, Tm.sizeL, Tm.sizeL, Fm.sizeL] at h1
    rw [Fm.deep, Tm.deepL, Tm.deepL, Tm.deepL, Fm.deepL] at h2
    refine ⟨?_, ?_, ?_⟩
    · rw [Fm.size, Tm.sizeL, Tm.sizeL, Tm.sizeL, Fm.sizeL]; omega
    · rw [Fm.deep, Tm.deepL, Tm.deepL, Tm.deepL, Fm.deepL]; omega
    · rw [Fm.all, Tm.allL, Tm.allL, Tm.allL, Fm.allL] at h3 ⊢
      simp only [Bool.and_eq_true, Bool.and_true] at h3 ⊢
      exact ⟨wf_atom nmB (by decide) (by decide), h3.2.2, h3.2.1⟩
  exact ⟨key s t, key t s⟩
/-- the six of them -/
structure Six (s t : Tm) : Prop where
  le : (∃ x y : Nat, x ≠ 0 ∧ y ≠ 0 ∧ atm (tA 9 s t) = .er x ∧ atm (tA 13 s t) = .er x ∧ atm (tA 14 s t) = .er x ∧ atm (tA 11 t s) = .er y) ∨ (∃ ns cs k, atm (tA 9 s t) = .ok ⟨0, ns, cs, -k, 0⟩ ∧ atm (tA 11 t s) = .ok ⟨0, ns, cs, -k, 0⟩ ∧ atm (tA 13 s t) = .ok ⟨1, ns, cs, -k, 0⟩ ∧ atm (tA 14 s t) = .ok ⟨1, ns, cs, -k, 0⟩ ∧ ((∃ x y : Nat, x ≠ 0 ∧ y ≠ 0 ∧ atm (tA 10 s t) = .er x ∧ atm (tA 12 t s) = .er y) ∨ (atm (tA 10 s t) = .ok ⟨0, ns, cs, -k - 1, 0⟩ ∧ atm (tA 12 t s) = .ok ⟨0, ns, cs, -k - 1, 0⟩)))
  lt : (∃ x y : Nat, x ≠ 0 ∧ y ≠ 0 ∧ atm (tA 10 s t) = .er x ∧ atm (tA 12 t s) = .er y) ∨ (∃ N, atm (tA 10 s t) = .ok N ∧ atm (tA 12 t s) = .ok N)
theorem nr_le {o : Int} (h : o = 9 ∨ o = 11) (D : Sm) : nrOf o 0 D = ⟨0, D.ns, D.cs, -D.k, 0⟩ := by
  rcases h with rfl | rfl <;> rfl
theorem nr_lt {o : Int} (h : o = 10 ∨ o = 12) (D : Sm) : nrOf o 0 D = ⟨0, D.ns, D.cs, -D.k - 1, 0⟩ := by
  rcases h with rfl | rfl <;> rfl
theorem nr_eq {o : Int} (h : o = 13 ∨ o = 14) (D : Sm) : nrOf o 0 D = ⟨1, D.ns, D.cs, -D.k, 0⟩ := by
  rcases h with rfl | rfl <;> rfl
theorem bd_le {o : Int} (h : o = 9 ∨ o = 11 ∨ o = 13 ∨ o = 14) (k : Int) : bdOf o k = -k := if_neg (by omega)
theorem fin_le {o : Int} (h : o = 9 ∨ o = 11 ∨ o = 13 ∨ o = 14) (D : Sm) : (finS o 0 D = .er 91 ∧ ¬ (in64 (-D.k) = true ∧ Chk.tot D.cs + (-D.k).natAbs ≤ 9223372036854775807)) ∨ (finS o 0 D = .ok (nrOf o 0 D) ∧ (in64 (-D.k) = true ∧ Chk.tot D.cs + (-D.k).natAbs ≤ 9223372036854775807)) := by
  have ht : tight (nrOf o 0 D) ↔ Chk.tot D.cs + (-D.k).natAbs ≤ 9223372036854775807 := by
    rcases h with rfl | rfl | rfl | rfl <;> exact Iff.rfl
  by_cases h1 : in64 (-D.k) = true
  · by_cases h2 : Chk.tot D.cs + (-D.k).natAbs ≤ 9223372036854775807
    · exact .inr ⟨finS_ok ⟨h1, by rw [bd_le h]; exact h1⟩ (ht.2 h2), h1, h2⟩
    · exact .inl ⟨finS_wide ⟨h1, by rw [bd_le h]; exact h1⟩ (fun k => h2 (ht.1 k)), fun k => h2 k.2⟩
  · exact .inl ⟨finS_no (fun k => h1 k.1), fun k => h1 k.1⟩
theorem fin_lt {o : Int} (D : Sm) (h : o = 10 ∨ o = 12) : finS o 0 D = finS 10 0 D := by
  rcases h with rfl | rfl <;> rfl
theorem fin_cases (o m : Int) (D : Sm) : finS o m D = .er 91 ∨ finS o m D = .ok (nrOf o m D) := by
  unfold finS
  split
  · split
    · exact .inr rfl
    · exact .inl rfl
  · exact .inl rfl
theorem six (s t : Tm) : Six s t := by
  by_cases h0 : chk nmB (tA 9 s t) = 0
  · have h0' := (chk_turn s t).1 h0
    have hr := fm_right h0
    have hs := hr.2.1 s (List.mem_cons_self ..)
    have ht := hr.2.1 t (List.mem_cons_of_mem _ (List.mem_cons_self ..))
    have a1 : ∀ o, 9 ≤ o → o ≤ 14 → atm (tA o s t) = match dfS o s t with | .er e => .er e | .ok D => finS o 0 D := fun o h1 h2 => (atm_at (by rw [chk_op nmB s t h1 h2]; exact h0) (by show ¬ o < 9; omega)).trans (atmS_eq o 0 s t)
    have a2 : ∀ o, 9 ≤ o → o ≤ 14 → atm (tA o t s) = match dfS o t s with | .er e => .er e | .ok D => finS o 0 D := fun o h1 h2 => (atm_at (by rw [chk_op nmB t s h1 h2]; exact h0') (by show ¬ o < 9; omega)).trans (atmS_eq o 0 t s)
    -- what both sides come to
    have hd : (∃ x y : Nat, x ≠ 0 ∧ y ≠ 0 ∧ (∀ o, o ≠ 11 → o ≠ 12 → dfS o s t = .er x) ∧ (∀ o, (o = 11 ∨ o = 12) → dfS o t s = .er y)) ∨ ∃ D, (∀ o, o ≠ 11 → o ≠ 12 → dfS o s t = .ok D) ∧ (∀ o, (o = 11 ∨ o = 12) → dfS o t s = .ok D) := by
      unfold dfS difS
      cases hl : lin s with
      | er e =>
        have he : e ≠ 0 := by rcases lin_er nmB s hs e hl with rfl | rfl <;> decide
        cases hm : lin t with
        | er f =>
          have hf : f ≠ 0 := by rcases lin_er nmB t ht f hm with rfl | rfl <;> decide
          exact .inl ⟨e, f, he, hf, fun o _ _ => rfl, fun o _ => rfl⟩
        | ok q => exact .inl ⟨e, e, he, he, fun o _ _ => rfl, fun o _ => rfl⟩
      | ok p =>
        cases hm : lin t with
        | er f =>
          have hf : f ≠ 0 := by rcases lin_er nmB t ht f hm with rfl | rfl <;> decide
          exact .inl ⟨f, f, hf, hf, fun o _ _ => rfl, fun o _ => rfl⟩
        | ok q =>
          by_cases hfit : (cmb (fun a b => a - b) p q).fits = true
          · refine .inr ⟨cmb (fun a b => a - b) p q, fun o h1 h2 => ?_, fun o h => ?_⟩
            · show mkS (if o = 11 ∨ o = 12 then _ else _) = _
              rw [if_neg (by omega)]; exact mkS_yes hfit
            · show mkS (if o = 11 ∨ o = 12 then _ else _) = _
              rw [if_pos h]; exact mkS_yes hfit
          · refine .inl ⟨91, 91, by decide, by decide, fun o h1 h2 => ?_, fun o h => ?_⟩
            · show mkS (if o = 11 ∨ o = 12 then _ else _) = _
              rw [if_neg (by omega)]; exact mkS_no hfit
            · show mkS (if o = 11 ∨ o = 12 then _ else _) = _
              rw [if_pos h]; exact mkS_no hfit
    rcases hd with ⟨x, y, hx, hy, d1, d2⟩ | ⟨D, d1, d2⟩
    · have b1 : ∀ o, 9 ≤ o → o ≤ 14 → o ≠ 11 → o ≠ 12 → atm (tA o s t) = .er x := fun o h1 h2 h3 h4 => (a1 o h1 h2).trans (by rw [d1 o h3 h4])
      have b2 : ∀ o, (o = 11 ∨ o = 12) → atm (tA o t s) = .er y := fun o h => (a2 o (by omega) (by omega)).trans (by rw [d2 o h])
      exact ⟨.inl ⟨x, y, hx, hy, b1 9 (by decide) (by decide) (by decide) (by decide), b1 13 (by decide) (by decide) (by decide) (by decide), b1 14 (by decide) (by decide) (by decide) (by decide), b2 11 (.inl rfl)⟩, .inl ⟨x, y, hx, hy, b1 10 (by decide) (by decide) (by decide) (by decide), b2 12 (.inr rfl)⟩⟩
    · have b1 : ∀ o, 9 ≤ o → o ≤ 14 → o ≠ 11 → o ≠ 12 → atm (tA o s t) = finS o 0 D := fun o h1 h2 h3 h4 => (a1 o h1 h2).trans (by rw [d1 o h3 h4])
      have b2 : ∀ o, (o = 11 ∨ o = 12) → atm (tA o t s) = finS o 0 D := fun o h => (a2 o (by omega) (by omega)).trans (by rw [d2 o h])
      have e9 := b1 9 (by decide) (by decide) (by decide) (by decide)
      have e10 := b1 10 (by decide) (by decide) (by decide) (by decide)
      have e13 := b1 13 (by decide) (by decide) (by decide) (by decide)
      have e14 := b1 14 (by decide) (by decide) (by decide) (by decide)
      have e11 := b2 11 (.inl rfl)
      have e12 := (b2 12 (.inr rfl)).trans (fin_lt D (.inr rfl))
      have hlt : (∃ x y : Nat, x ≠ 0 ∧ y ≠ 0 ∧ atm (tA 10 s t) = .er x ∧ atm (tA 12 t s) = .er y) ∨ (atm (tA 10 s t) = .ok ⟨0, D.ns, D.cs, -D.k - 1, 0⟩ ∧ atm (tA 12 t s) = .ok ⟨0, D.ns, D.cs, -D.k - 1, 0⟩) := by
        rcases fin_cases 10 0 D with h | h
        · exact .inl ⟨91, 91, by decide, by decide, e10.trans h, e12.trans h⟩
        · rw [nr_lt (.inl rfl)] at h
          exact .inr ⟨e10.trans h, e12.trans h⟩
      refine ⟨?_, ?_⟩
      · rcases fin_le (o := 9) (.inl rfl) D with ⟨f9, hn⟩ | ⟨f9, hy⟩
        · have g : ∀ o, (o = 9 ∨ o = 11 ∨ o = 13 ∨ o = 14) → finS o 0 D = .er 91 := fun o h => by
            rcases fin_le h D with ⟨f, -⟩ | ⟨-, f⟩
            · exact f
            · exact absurd f hn
          exact .inl ⟨91, 91, by decide, by decide, e9.trans f9, e13.trans (g 13 (by decide)), e14.trans (g 14 (by decide)), e11.trans (g 11 (by decide))⟩
        · have g : ∀ o, (o = 9 ∨ o = 11 ∨ o = 13 ∨ o = 14) → finS o 0 D = .ok (nrOf o 0 D) := fun o h => by
            rcases fin_le h D with ⟨-, f⟩ | ⟨f, -⟩
            · exact absurd hy f
            · exact f
          exact .inr ⟨D.ns, D.cs, D.k, (e9.trans (g 9 (by decide))).trans (by rw [nr_le (.inl rfl)]), (e11.trans (g 11 (by decide))).trans (by rw [nr_le (.inr rfl)]), (e13.trans (g 13 (by decide))).trans (by rw [nr_eq (.inl rfl)]), (e14.trans (g 14 (by decide))).trans (by rw [nr_eq (.inr rfl)]), hlt⟩
      · rcases hlt with h | ⟨h, k⟩
        · exact .inl h
        · exact .inr ⟨_, h, k⟩
  · have h0' : ¬ chk nmB (tA 9 t s) = 0 := fun h => h0 ((chk_turn s t).2 h)
    have b1 : ∀ o, 9 ≤ o → o ≤ 14 → atm (tA o s t) = .er (chk nmB (tA 9 s t)) := fun o h1 h2 => by
      have := chk_op nmB s t h1 h2
      rw [← this]; exact atm_no (by rw [this]; exact h0)
    have b2 : ∀ o, 9 ≤ o → o ≤ 14 → atm (tA o t s) = .er (chk nmB (tA 9 t s)) := fun o h1 h2 => by
      have := chk_op nmB t s h1 h2
      rw [← this]; exact atm_no (by rw [this]; exact h0')
    exact ⟨.inl ⟨_, _, h0, h0', b1 9 (by decide) (by decide), b1 13 (by decide) (by decide), b1 14 (by decide) (by decide), b2 11 (by decide) (by decide)⟩, .inl ⟨_, _, h0, h0', b1 10 (by decide) (by decide), b2 12 (by decide) (by decide)⟩⟩
set_option maxHeartbeats 2000000 in
theorem normals_yes (k b m : Int) (T : List ByteArray) (U : List Int) (no no' co co' : Option Addr) (n c o d n' c' o' d' : Nat) (w : World) (h1 : RdS w no n c T) (h2 : RdS w no' n' c' T) (h3 : RdZ w co o d U) (h4 : RdZ w co' o' d' U) :
    Calls Tryz.prog 12 #[nrV k b m no co n c o d, nrV k b m no' co' n' c' o' d'] w fun e w' => e = .returned (.bool true) ∧ Below w.heap.size w w' := by
  have hR1 := rb_new w (nrA k b m no co n c o d) 44
  have hB1 := bal w (.cells (nrA k b m no co n c o d) 44)
  have hs1 : (w.alloc (.cells (nrA k b m no co n c o d) 44)).heap.size = w.heap.size + 1 := by simp
  have hR2 := rb_new (w.alloc (.cells (nrA k b m no co n c o d) 44)) (nrA k b m no' co' n' c' o' d') 44
  rw [hs1] at hR2
  have hR1' := hR1.keep (bal _ (.cells (nrA k b m no' co' n' c' o' d') 44))
  have hB2 := bt2 hB1 (bal _ (.cells (nrA k b m no' co' n' c' o' d') 44))
  have S1 := mkHid (nsame_at no no' n c n' c' T T true _ (h1.below (Nat.le_refl _) hB2) (h2.below (Nat.le_refl _) hB2) ⟨fun _ => rfl, fun _ => rfl⟩)
  have S2 : Hid (∀ w', Below w.heap.size w w' → Calls Tryz.prog 9 #[.slice co o d, .slice co' o' d'] w' fun e w'' => e = .returned (.bool true) ∧ Below w'.heap.size w' w'') := fun w' hb => numbers_at co co' o d o' d' U U true w' (h3.below (Nat.le_refl _) hb) (h4.below (Nat.le_refl _) hb) ⟨fun _ => rfl, fun _ => rfl⟩
  have k1 : (k == k) = true := by simp
  have k2 : (b == b) = true := by simp
  have k3 : (m == m) = true := by simp
  clear hs1 h1 h2 h3 h4 hR1
  go_enter Tryz.func12, Tryz.ntmps12
  go_wp2_with (fail)
  generalize (w.alloc (.cells (nrA k b m no co n c o d) 44)).alloc (.cells (nrA k b m no' co' n' c' o' d') 44) = w1 at hR1' hR2 hB2 S1 ⊢
  refine S1.out.mono ?_
  rintro e w2 ⟨rfl, hB3⟩
  have hRa := hR1'.keep hB3
  have hRb := hR2.keep hB3
  have a2 : w2.cell? ⟨w.heap.size, 2, none⟩ = some (.slice co o d) := (txcell (vs := nrA k b m no co n c o d) hRa 2 _ rfl).1
  have b2 : w2.cell? ⟨w.heap.size + 1, 2, none⟩ = some (.slice co' o' d') := (txcell (vs := nrA k b m no' co' n' c' o' d') hRb 2 _ rfl).1
  go_wp2_with (fail)
  refine (S2.out w2 (bt2 hB2 hB3)).mono ?_
  rintro e w4 ⟨rfl, hB4⟩
  have hRc := hRa.keep hB4
  have hRd := hRb.keep hB4
  have a3 : w4.cell? ⟨w.heap.size, 3, none⟩ = some (.int .i64 b) := (txcell (vs := nrA k b m no co n c o d) hRc 3 _ rfl).1
  have b3 : w4.cell? ⟨w.heap.size + 1, 3, none⟩ = some (.int .i64 b) := (txcell (vs := nrA k b m no' co' n' c' o' d') hRd 3 _ rfl).1
  have a4 : w4.cell? ⟨w.heap.size, 4, none⟩ = some (.int .i64 m) := (txcell (vs := nrA k b m no co n c o d) hRc 4 _ rfl).1
  have b4 : w4.cell? ⟨w.heap.size + 1, 4, none⟩ = some (.int .i64 m) := (txcell (vs := nrA k b m no' co' n' c' o' d') hRd 4 _ rfl).1
  clear a2 b2 S1 S2
  go_wp2_with (fail)
  go_ret
  exact ⟨rfl, bt2 (bt2 hB2 hB3) hB4⟩
end Go.Proofs.YtiapkblebbcfbaaGreat.Gl
/- NormAtoms: the walk. -/
namespace Go.Proofs.YtiapkblebbcfbaaGreat.Gl
open Go Go.RowKit
set_option linter.unusedVariables false
set_option linter.unusedSimpArgs false

/-- the document's Atom, whatever the formula -/
theorem ratom_any (W : World) (f : Fm) (v : Value) (w : World) (hv : FmV W f v) (hW : Below W.heap.size W w) :
    Calls Tryz.prog 11 #[v] w fun e w' => ∃ v', e = .returned v' ∧ RAr w' (atm f) v' ∧ Below w.heap.size w w' := by
  by_cases h0 : chk nmB f = 0
  · by_cases h1 : f.op < 9
    · exact ratom_low W f v w hv hW h0 h1
    · cases f with
      | mk o x m t a =>
        obtain ⟨⟨s, u, rfl⟩, rfl, -, -, ho⟩ := fm_atom (fm_right h0).1 h1
        have h1' : ¬ o < 9 := h1
        rcases (show o = 9 ∨ o = 10 ∨ o = 11 ∨ o = 12 ∨ o = 13 ∨ o = 14 ∨ o = 15 by omega) with rfl | rfl | rfl | rfl | rfl | rfl | rfl
        · exact ratom_9 W m x s u v w hv hW h0 h1
        · exact ratom_10 W m x s u v w hv hW h0 h1
        · exact ratom_11 W m x s u v w hv hW h0 h1
        · exact ratom_12 W m x s u v w hv hW h0 h1
        · exact ratom_13 W m x s u v w hv hW h0 h1
        · exact ratom_14 W m x s u v w hv hW h0 h1
        · exact ratom_15 W m x s u v w hv hW h0 h1
  · exact ratom_bad W f v w hv hW h0
theorem fin_of {o m : Int} {D : Sm} {N : Nr} (h : finS o m D = .ok N) : N = nrOf o m D ∧ tight N := by
  unfold finS at h
  split at h
  · split at h
    · cases h; exact ⟨rfl, ‹_›⟩
    · cases h
  · cases h
theorem rise_good {D : Sm} {m : Nat} (g : D.good nmB m) : Rise D.ns := by
  intro i hi
  refine ⟨(nmB_iff _).1 (g.nms _ ?_), fun h => ris_lt g.ris (by omega) hi⟩
  rw [List.getD_eq_getElem?_getD, List.getElem?_eq_getElem hi]
  exact List.getElem_mem hi
/-- an atom's normal form stands right -/
theorem nrok_atm {f : Fm} {N : Nr} (h : atm f = .ok N) : nrOk N := by
  by_cases h0 : chk nmB f = 0
  · by_cases h1 : f.op < 9
    · rw [atm_low h0 h1] at h; cases h
    · cases f with
      | mk o x m t a =>
        obtain ⟨⟨s, u, rfl⟩, rfl, hm, hm0, ho⟩ := fm_atom (fm_right h0).1 h1
        have e1 : atm (.mk o x m [s, u] []) = atmS o m [s, u] := atm_at h0 h1
        have hr := fm_right h0
        have hs := hr.2.1 s (List.mem_cons_self ..)
        have ht := hr.2.1 u (List.mem_cons_of_mem _ (List.mem_cons_self ..))
        rw [e1, atmS_eq] at h
        cases hd : dfS o s u with
        | er e2 => rw [hd] at h; cases h
        | ok D =>
          rw [hd] at h
          obtain ⟨hN, hT⟩ := fin_of (show finS o m D = .ok N from h)
          have hz : s.size + u.size ≤ 499 := by
            have := hr.2.2
            rw [Tm.sizeL, Tm.sizeL, Tm.sizeL] at this
            omega
          have gD := dfS_good hs ht hz hd
          have hR := rise_good gD
          have hl := gD.len
          subst hN
          by_cases h15 : o = 15
          · have hm1 := hm h15
            have e : nrOf o m D = ⟨2, D.ns, D.cs.map (fun c => c % m), (-D.k) % m, m⟩ := by unfold nrOf; rw [if_pos h15]
            rw [e] at hT ⊢
            have hp : ∀ z : Int, 0 ≤ z % m ∧ z % m < m := fun z => ⟨Int.emod_nonneg z (by omega), Int.emod_lt_of_pos z (by omega)⟩
            refine ⟨.inr (.inr rfl), hR, ?_, hT, fun h => absurd rfl h, fun _ => ⟨hm1, (hp _).1, (hp _).2, fun c hc => ?_⟩⟩
            · show (D.cs.map _).length = _
              rw [List.length_map]; exact hl
            · obtain ⟨y, -, rfl⟩ := List.mem_map.1 hc
              exact hp y
          · have e : nrOf o m D = ⟨kdOf o, D.ns, D.cs, bdOf o D.k, m⟩ := by unfold nrOf; rw [if_neg h15]
            rw [e] at hT ⊢
            have hk : kdOf o = 0 ∨ kdOf o = 1 := by
              unfold kdOf
              split
              · exact .inr rfl
              · first | exact .inl rfl | (rw [if_neg h15]; exact .inl rfl)
            refine ⟨?_, hR, hl, hT, fun _ => hm0 h15, fun h => ?_⟩
            · rcases hk with h | h
              · exact .inl h
              · exact .inr (.inl h)
            · have h : kdOf o = 2 := h
              rcases hk with k | k <;> rw [k] at h <;> cases h
  · rw [atm_no h0] at h; cases h
theorem atm_er9 {f : Fm} {e : Nat} (h : atm f = .er e) : e ≠ 0 := by
  by_cases h0 : chk nmB f = 0
  · by_cases h1 : f.op < 9
    · rw [atm_low h0 h1] at h; cases h; decide
    · cases f with
      | mk o x m t a =>
        obtain ⟨⟨s, u, rfl⟩, rfl, -⟩ := fm_atom (fm_right h0).1 h1
        have hr := fm_right h0
        have hs := hr.2.1 s (List.mem_cons_self ..)
        have ht := hr.2.1 u (List.mem_cons_of_mem _ (List.mem_cons_self ..))
        have e1 : atm (.mk o x m [s, u] []) = atmS o m [s, u] := atm_at h0 h1
        rw [e1, atmS_eq] at h
        cases hd : dfS o s u with
        | er e2 =>
          rw [hd] at h
          cases h
          rcases dfS_er hs ht hd with rfl | rfl <;> decide
        | ok D =>
          rw [hd] at h
          have h : finS o m D = .er e := h
          unfold finS at h
          split at h
          · split at h
            · cases h
            · cases h; decide
          · cases h; decide
  · rw [atm_no h0] at h
    cases h
    exact h0
theorem nor5 {y : World} {p : Nat} {c0 c1 c2 c3 c4 : Value} (hR : Rb y p #[c0, c1, c2, c3, c4] 44) : y.cell? ⟨p, 0, none⟩ = some c0 ∧ y.cell? ⟨p, 1, none⟩ = some c1 ∧ y.cell? ⟨p, 2, none⟩ = some c2 ∧ y.cell? ⟨p, 3, none⟩ = some c3 ∧ y.cell? ⟨p, 4, none⟩ = some c4 :=
  ⟨(txcell hR 0 _ rfl).1, (txcell hR 1 _ rfl).1, (txcell hR 2 _ rfl).1, (txcell hR 3 _ rfl).1, (txcell hR 4 _ rfl).1⟩
set_option maxRecDepth 100000 in
set_option maxHeartbeats 8000000 in
theorem atoms_walk (f : Fm) (v : Value) (w : World) (hv : FmV w f v) :
    Calls Tryz.prog 4 #[v] w fun e w' => e = .returned (.bool true) ∧ Below w.heap.size w w' := by
  have FX := mkHid nfixed_at
  have AT : Hid (∀ w', Below w.heap.size w w' → Calls Tryz.prog 10 #[v] w' fun e w'' => ∃ v', e = .returned v' ∧ ArV w'.heap.size w'' (atm f) v' ∧ Below w'.heap.size w' w'') := fun w' hb => atom_any w f v w' hv hb
  have RT : Hid (∀ w', Below w.heap.size w w' → Calls Tryz.prog 11 #[v] w' fun e w'' => ∃ v', e = .returned v' ∧ RAr w'' (atm f) v' ∧ Below w'.heap.size w' w'') := fun w' hb => ratom_any w f v w' hv hb
  obtain ⟨c0, c1, c2, c3, c4, rfl, hr⟩ := hv
  have hB1 := bal w (.cells #[c0, c1, c2, c3, c4] 41)
  have hR1 := rb_new w #[c0, c1, c2, c3, c4] 41
  go_enter Tryz.func4, Tryz.ntmps4
  go_wp2_with (fail)
  generalize w.alloc (.cells #[c0, c1, c2, c3, c4] 41) = w1 at hB1 hR1 ⊢
  refine (AT.out w1 hB1).mono ?_
  rintro e w2 ⟨v', rfl, hA, hB2⟩
  have hB12 := bt2 hB1 hB2
  have hR2 := hR1.keep hB2
  obtain ⟨b0, b1, b2, b3, b4⟩ := form5 hR2
  cases ha : atm f with
  | er e =>
    have he := atm_er9 ha
    rw [ha] at hA RT
    have hv2 : v' = .tuple #[.agg zN, .int .i64 e] := hA
    subst hv2
    have hB3 := bal w2 (.cells zN 44)
    have hR3 := hR2.keep hB3
    obtain ⟨b0', b1', b2', b3', b4'⟩ := form5 hR3
    have hZ3 := rb_new w2 zN 44
    have hB13 := bt2 hB12 hB3
    have hx : ((e : Int) != 0) = true := by rw [bne_iff_ne]; omega
    clear ha hA AT hR1 hB1
    go_wp2_with (fail)
    generalize w2.alloc (.cells zN 44) = w3 at hR3 hZ3 hB13 ⊢
    refine (RT.out w3 hB13).mono ?_
    rintro e' w4 ⟨v4, rfl, hA4, hB4⟩
    have hv4 : v4 = .tuple #[.agg zN, .int .i64 e] := hA4
    subst hv4
    have hZ4 := hZ3.keep hB4
    have hB5 := bal w4 (.cells zN 44)
    have hZ5 := rb_new w4 zN 44
    have hZ45 := hZ4.keep hB5
    have hB15 := bt2 (bt2 hB13 hB4) hB5
    clear b0 b1 b2 b3 b4 b0' b1' b2' b3' b4' hR2 hR3 RT hA4
    go_wp2_with (fail)
    generalize hw5 : w4.alloc (.cells zN 44) = w5 at hZ5 hZ45 hB15 hB5 ⊢
    clear hw5
    refine (FX.out w5).mono ?_
    rintro e' w6 ⟨rfl, hB6⟩
    have hZ6 := hZ5.keep hB6
    have hZ46 := hZ45.keep hB6
    obtain ⟨k0, k1, k2, k3, k4⟩ := nor5 hZ6
    obtain ⟨j0, j1, j2, j3, j4⟩ := nor5 hZ46
    have hq : ((e : Int) == (e : Int)) = true := by simp
    have NY := mkHid (normals_yes 0 0 0 [] [] none none none none 0 0 0 0 0 0 0 0 w6 (rds_nil _) (rds_nil _) (rdz_nil _) (rdz_nil _))
    clear hZ3 hZ4 hZ5 hZ45 hZ6 hZ46 FX
    go_wp2_with (fail)
    refine NY.out.mono ?_
    rintro e' w7 ⟨rfl, hB7⟩
    go_wp2_with (fail)
    go_ret
    exact ⟨rfl, bt2 (bt2 hB15 hB6) hB7⟩
  | ok N =>
    have hOk := nrok_atm ha
    rw [ha] at hA RT
    obtain ⟨no, co, n, c, o, d, rfl, hN2, -, -⟩ := hA
    have hB3 := bal w2 (.cells (nrA N.kd N.bd N.md no co n c o d) 44)
    have hR3 := hR2.keep hB3
    obtain ⟨b0', b1', b2', b3', b4'⟩ := form5 hR3
    have hZ3 := rb_new w2 (nrA N.kd N.bd N.md no co n c o d) 44
    have hN3 := hN2.below hB3
    have hB13 := bt2 hB12 hB3
    clear ha AT hR1 hB1
    go_wp2_with (fail)
    generalize w2.alloc (.cells (nrA N.kd N.bd N.md no co n c o d) 44) = w3 at hR3 hZ3 hB13 hN3 ⊢
    refine (RT.out w3 hB13).mono ?_
    rintro e' w4 ⟨v4, rfl, hA4, hB4⟩
    obtain ⟨no', co', n', c', o', d', rfl, hN4⟩ := (show RAr w4 (.ok N) v4 from hA4)
    have hZ4 := hZ3.keep hB4
    have hB5 := bal w4 (.cells (nrA N.kd N.bd N.md no' co' n' c' o' d') 44)
    have hZ5 := rb_new w4 (nrA N.kd N.bd N.md no' co' n' c' o' d') 44
    have hZ45 := hZ4.keep hB5
    have hB15 := bt2 (bt2 hB13 hB4) hB5
    clear b0 b1 b2 b3 b4 b0' b1' b2' b3' b4' hR2 hR3 RT hA4
    go_wp2_with (fail)
    generalize hw5 : w4.alloc (.cells (nrA N.kd N.bd N.md no' co' n' c' o' d') 44) = w5 at hZ5 hZ45 hB15 hB5 ⊢
    clear hw5
    refine (FX.out w5).mono ?_
    rintro e' w6 ⟨rfl, hB6⟩
    have hZ6 := hZ5.keep hB6
    have hZ46 := hZ45.keep hB6
    obtain ⟨k0, k1, k2, k3, k4⟩ := nor5 hZ6
    obtain ⟨j0, j1, j2, j3, j4⟩ := nor5 hZ46
    have hN6 := hN3.below (bt2 (bt2 hB4 hB5) hB6)
    have hN6' := hN4.below (bt2 hB5 hB6)
    have NY := mkHid (normals_yes N.kd N.bd N.md N.ns N.cs no no' co co' n c o d n' c' o' d' w6 hN6.ns hN6'.ns hN6.cs hN6'.cs)
    clear hZ3 hZ4 hZ5 hZ45 hZ6 FX hN3 hN4 hN6'
    go_wp2_with (fail)
    refine NY.out.mono ?_
    rintro e' w7 ⟨rfl, hB7⟩
    have CK := mkHid (check9_at N no co n c o d 0 w7 (hN6.below hB7) (.inl ⟨rfl, hOk⟩))
    clear j0 j1 j2 j3 j4 k0 k1 k2 k3 k4
    obtain ⟨j0, j1, j2, j3, j4⟩ := nor5 (hZ46.keep hB7)
    clear NY hN6 hZ46
    go_wp2_with (fail)
    refine CK.out.mono ?_
    rintro e' w8 ⟨rfl, hB8⟩
    go_wp2_with (fail)
    go_ret
    exact ⟨rfl, bt2 (bt2 (bt2 hB15 hB6) hB7) hB8⟩
end Go.Proofs.YtiapkblebbcfbaaGreat.Gl
