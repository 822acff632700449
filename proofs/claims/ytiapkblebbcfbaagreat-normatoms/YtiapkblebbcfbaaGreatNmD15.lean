/- The document's Atom: operation 9. -/
import Derived.Test.YtiapkblebbcfbaaGreatNmCk
import Derived.Test.YtiapkblebbcfbaaGreatNmO
import Derived.Test.YtiapkblebbcfbaaGreatPsE
namespace Go.Proofs.YtiapkblebbcfbaaGreat.Gl
open Go Go.RowKit
set_option linter.unusedVariables false
set_option linter.unusedSimpArgs false

set_option maxRecDepth 100000 in
set_option maxHeartbeats 40000000 in
theorem ratom_9 (W : World) (m : Int) (x : ByteArray) (s t : Tm) (v : Value) (w : World) (hv : FmV W (.mk 9 x m [s, t] []) v) (hW : Below W.heap.size W w) (h0 : chk nmB (.mk 9 x m [s, t] []) = 0) (h1 : ¬ ((9 : Int) < 9)) :
    Calls Tryz.prog 11 #[v] w fun e w' => ∃ v', e = .returned v' ∧ RAr w' (atm (.mk 9 x m [s, t] [])) v' ∧ Below w.heap.size w w' := by
  have hwell := fm_right h0
  have hfa := fm_atom hwell.1 h1
  have hs := hwell.2.1 s (List.mem_cons_self ..)
  have ht := hwell.2.1 t (List.mem_cons_of_mem _ (List.mem_cons_self ..))
  have hsz : s.size + t.size ≤ 499 := by have := hwell.2.2; simp only [Tm.sizeL, Fm.sizeL] at this; omega
  have HA : Hid (atm (.mk 9 x m [s, t] []) = match dfS 9 s t with | .er e => .er e | .ok D => finS 9 m D) := (atm_at h0 h1).trans (atmS_eq 9 m s t)
  have HMD := mkHid hfa.2.2
  have CK : Hid (∀ w', Below w.heap.size w w' → Calls Tryz.prog 24 #[v] w' fun e w'' => e = .returned (.int .i64 0) ∧ Below w'.heap.size w' w'') := fun w' h => by
    have := rcheck_at W _ v w' hv (hW.trans (h.mono hW.size))
    rw [h0] at this
    exact this
  obtain ⟨c0, c1, c2, c3, c4, rfl, hr⟩ := hv
  rw [RdF] at hr
  obtain ⟨rfl, rfl, rfl, ⟨hio, him, -⟩, ⟨ao, cap, rfl, hcap, hcm, hk⟩, -⟩ := hr
  obtain ⟨g, of, d0, d1, d2, d3, f0, f1, f2, f3, rfl, q0, q1, q2, q3, hrt, t0, t1, t2, t3, hru, hg⟩ := two_kids hk
  have hcap' : 2 ≤ cap := hcap
  have WS : Hid (∀ y, Below W.heap.size W y → Calls Tryz.prog 17 #[.agg #[d0, d1, d2, d3]] y fun e w' => ∃ v', e = .returned v' ∧ DSum w' (lin s) v' ∧ Below y.heap.size y w') := fun y hy => work_at s hs W (.agg #[d0, d1, d2, d3]) y ⟨_, _, _, _, rfl, hrt⟩ hy (by omega)
  have WT : Hid (∀ y, Below W.heap.size W y → Calls Tryz.prog 17 #[.agg #[f0, f1, f2, f3]] y fun e w' => ∃ v', e = .returned v' ∧ DSum w' (lin t) v' ∧ Below y.heap.size y w') := fun y hy => work_at t ht W (.agg #[f0, f1, f2, f3]) y ⟨_, _, _, _, rfl, hru⟩ hy (by omega)
  have TS : Hid (∀ y : World, Below W.heap.size W y → y.cell? ⟨g, of, none⟩ = some d0 ∧ y.cell? ⟨g, of + 1, none⟩ = some d1 ∧ y.cell? ⟨g, of + 2, none⟩ = some d2 ∧ y.cell? ⟨g, of + 3, none⟩ = some d3) := fun y hy => ⟨(hy.cell (p := ⟨g, of, none⟩) hg).trans q0, (hy.cell (p := ⟨g, of + 1, none⟩) hg).trans q1, (hy.cell (p := ⟨g, of + 2, none⟩) hg).trans q2, (hy.cell (p := ⟨g, of + 3, none⟩) hg).trans q3⟩
  have TU : Hid (∀ y : World, Below W.heap.size W y → y.cell? ⟨g, of + 4, none⟩ = some f0 ∧ y.cell? ⟨g, of + 5, none⟩ = some f1 ∧ y.cell? ⟨g, of + 6, none⟩ = some f2 ∧ y.cell? ⟨g, of + 7, none⟩ = some f3) := fun y hy => ⟨(hy.cell (p := ⟨g, of + 4, none⟩) hg).trans t0, (hy.cell (p := ⟨g, of + 5, none⟩) hg).trans t1, (hy.cell (p := ⟨g, of + 6, none⟩) hg).trans t2, (hy.cell (p := ⟨g, of + 7, none⟩) hg).trans t3⟩
  have HGs : Hid (∀ p, lin s = .ok p → p.good nmB 500) := fun p hp => (lin_good nmB s hs p hp).mono (by omega)
  have HGt : Hid (∀ p, lin t = .ok p → p.good nmB 500) := fun p hp => (lin_good nmB t ht p hp).mono (by omega)
  have HEs : Hid (∀ e, lin s = .er e → e = 90 ∨ e = 91) := lin_er nmB s hs
  have HEt : Hid (∀ e, lin t = .er e → e = 90 ∨ e = 91) := lin_er nmB t ht
  have HGD : Hid (∀ D, dfS 9 s t = .ok D → D.good nmB 1000) := fun D hD => dfS_good hs ht hsz hD
  have HF := frF_new w (.int .i64 9) (.string x) (.int .i64 m) (.slice (some ⟨g, of, none⟩) 2 cap) c4 zN 44
  clear h0 hwell hfa hs ht q0 q1 q2 q3 t0 t1 t2 t3 hrt hru hk
  go_enter Tryz.func11, Tryz.ntmps11
  go_wp2_with (fail)
  generalize (w.alloc (.cells #[.int .i64 9, .string x, .int .i64 m, .slice (some ⟨g, of, none⟩) 2 cap, c4] 41)).alloc (.cells zN 44) = w2 at HF ⊢
  refine (CK.out w2 HF.bel).mono ?_
  rintro e w3 ⟨rfl, hB3⟩
  have HF3 := HF.keep hB3
  obtain ⟨b0, b1, b2, b3, b4⟩ := form5 HF3.box
  have hW3 : Below W.heap.size W w3 := hW.trans (HF3.bel.mono hW.size)
  obtain ⟨p0, p1, p2, p3⟩ := TS.out w3 hW3
  have WS3 := mkHid (WS.out w3 hW3)
  clear CK HF WS TS
  go_wp2_with (fail)
  refine WS3.out.mono ?_
  rintro e w4 ⟨v4, rfl, hL, hB4⟩
  have HF4 := HF3.keep hB4
  clear WS3 b0 b1 b2 b3 b4 p0 p1 p2 p3
  cases hls : lin s with
  | er e =>
    rw [hls] at hL
    have he := HEs.out e hls
    obtain ⟨na, ca, n, c, l, d, ka, rfl, -⟩ := hL
    have hx : ((e : Int) != 0) = true := by rw [bne_iff_ne]; omega
    have HP : Hid (atm (.mk 9 x m [s, t] []) = .er e) := by show _ = _; rw [HA.out]; unfold dfS; rw [hls]
    have HF5 := HF4.keep (bal w4 (.cells (sum4 na ca n c l d ka e) 32))
    have hR5 := rb_new w4 (sum4 na ca n c l d ka e) 32
    clear HGs HGt HEs HEt HGD HA WT TU
    go_wp2_with (fail)
    have hneq : w4.heap.size ≠ w.heap.size + 1 := by have := HF4.size; omega
    generalize w4.alloc (.cells (sum4 na ca n c l d ka e) 32) = w5 at HF5 hR5 ⊢
    obtain ⟨m0, m1, m2, m3⟩ := cells4 hR5
    obtain ⟨r0, s0⟩ := txcell HF5.res 0 _ rfl
    obtain ⟨r1, s1⟩ := txcell HF5.res 1 _ rfl
    obtain ⟨r2, s2⟩ := txcell HF5.res 2 _ rfl
    obtain ⟨r3, s3⟩ := txcell HF5.res 3 _ rfl
    obtain ⟨r4, s4⟩ := txcell HF5.res 4 _ rfl
    have hR9 := (rb_five HF5.res rfl (.int .i64 0) (.slice none 0 0) (.slice none 0 0) (.int .i64 0) (.int .i64 0)).keep (Below.refl _ _).drew
    have hB9 := mkHid (bel_st5n (B := w.heap.size + 1) HF5.bel (by omega) (.int .i64 0) (.slice none 0 0) (.slice none 0 0) (.int .i64 0) (.int .i64 0))
    replace hB9 := mkHid hB9.out.drew
    go_wp2_with (fail)
    have hRq := ((((hR5.other hneq 0 (.int .i64 0)).other hneq 1 (.slice none 0 0)).other hneq 2 (.slice none 0 0)).other hneq 3 (.int .i64 0)).other hneq 4 (.int .i64 0)
    have mq := (cells4 (hRq.keep (Below.refl _ _).drew)).2.2.2
    go_region
    go_wp2_with (fail)
    obtain ⟨k0, -⟩ := txcell hR9 0 _ rfl
    obtain ⟨k1, -⟩ := txcell hR9 1 _ rfl
    obtain ⟨k2, -⟩ := txcell hR9 2 _ rfl
    obtain ⟨k3, -⟩ := txcell hR9 3 _ rfl
    obtain ⟨k4, -⟩ := txcell hR9 4 _ rfl
    exact bodyPost_ret (v := .tuple #[.agg zN, .int .i64 (e : Nat)]) (by simp [results, Tryz.results11, go_sem, k0, k1, k2, k3, k4]) rfl ⟨_, rfl, by rw [HP.out]; rfl, hB9.out⟩
  | ok a =>
    rw [hls] at hL
    have gA := HGs.out a hls
    obtain ⟨na, ca, n, c, l, d, rfl, hN, hZ, hK, hC⟩ := hL
    have hln : n = l := by have := gA.len; rw [hN.eqlen, hZ.eqlen] at this; exact this.symm
    subst hln
    have hB5 := bal w4 (.cells (sum4 na ca n c n d a.k 0) 32)
    have HF5 := HF4.keep hB5
    have hR5 := rb_new w4 (sum4 na ca n c n d a.k 0) 32
    have hW5 : Below W.heap.size W (w4.alloc (.cells (sum4 na ca n c n d a.k 0) 32)) := hW.trans (HF5.bel.mono hW.size)
    obtain ⟨p0, p1, p2, p3⟩ := TU.out _ hW5
    obtain ⟨b0, b1, b2, b3, b4⟩ := form5 HF5.box
    obtain ⟨p0', p1', p2', p3'⟩ := TU.out w4 (hW.trans (HF4.bel.mono hW.size))
    obtain ⟨b0', b1', b2', b3', b4'⟩ := form5 HF4.box
    have WT5 := mkHid (WT.out _ hW5)
    have hN5 := hN.below (Nat.le_refl _) hB5
    have hZ5 := hZ.below (Nat.le_refl _) hB5
    have hnn : n ≤ 500 := by have := gA.few; rw [hN.eqlen] at this; exact this
    have fA := mkHid gA.fit
    have HLs := mkHid hls
    have hs4 := HF4.size
    have hp6 : w4.heap.size < (w4.alloc (.cells (sum4 na ca n c n d a.k 0) 32)).heap.size := by simp
    clear HGs HEs WT TU hN hZ hK hC hls gA
    go_wp2_with (fail)
    generalize w4.heap.size = p6 at hR5 hs4 hp6 ⊢
    generalize w4.alloc (.cells (sum4 na ca n c n d a.k 0) 32) = w5 at hB5 HF5 hR5 hW5 WT5 hN5 hZ5 hp6 p0 p1 p2 p3 b0 b1 b2 b3 b4 ⊢
    clear hB5 hB4 HF4 p0 p1 p2 p3 b0 b1 b2 b3 b4 p0' p1' p2' p3' b0' b1' b2' b3' b4'
    refine WT5.out.mono ?_
    rintro e w6 ⟨v6, rfl, hL6, hB6⟩
    have HF6 := HF5.keep hB6
    have hR6 := hR5.keep hB6
    clear WT5
    cases hlt : lin t with
    | er e =>
      rw [hlt] at hL6
      have he := HEt.out e hlt
      obtain ⟨nb, cb, n', c', l', d', kb, rfl, -⟩ := hL6
      have hx : ((e : Int) != 0) = true := by rw [bne_iff_ne]; omega
      have HP : Hid (atm (.mk 9 x m [s, t] []) = .er e) := by show _ = _; rw [HA.out]; unfold dfS; rw [HLs.out, hlt]
      have HF7 := HF6.keep (bal w6 (.cells (sum4 nb cb n' c' l' d' kb e) 32))
      have hR7 := rb_new w6 (sum4 nb cb n' c' l' d' kb e) 32
      have hneq : w6.heap.size ≠ w.heap.size + 1 := by have := HF6.size; omega
      clear HGt HEt HGD HA HLs hN5 hZ5 fA hR5 hR6
      go_wp2_with (fail)
      generalize w6.alloc (.cells (sum4 nb cb n' c' l' d' kb e) 32) = w7 at HF7 hR7 ⊢
      obtain ⟨m0, m1, m2, m3⟩ := cells4 hR7
      obtain ⟨r0, s0⟩ := txcell HF7.res 0 _ rfl
      obtain ⟨r1, s1⟩ := txcell HF7.res 1 _ rfl
      obtain ⟨r2, s2⟩ := txcell HF7.res 2 _ rfl
      obtain ⟨r3, s3⟩ := txcell HF7.res 3 _ rfl
      obtain ⟨r4, s4⟩ := txcell HF7.res 4 _ rfl
      have hR9 := (rb_five HF7.res rfl (.int .i64 0) (.slice none 0 0) (.slice none 0 0) (.int .i64 0) (.int .i64 0)).keep (Below.refl _ _).drew
      have hB9 := mkHid (bel_st5n (B := w.heap.size + 1) HF7.bel (by omega) (.int .i64 0) (.slice none 0 0) (.slice none 0 0) (.int .i64 0) (.int .i64 0))
      replace hB9 := mkHid hB9.out.drew
      go_wp2_with (fail)
      have hRq := ((((hR7.other hneq 0 (.int .i64 0)).other hneq 1 (.slice none 0 0)).other hneq 2 (.slice none 0 0)).other hneq 3 (.int .i64 0)).other hneq 4 (.int .i64 0)
      have mq := (cells4 (hRq.keep (Below.refl _ _).drew)).2.2.2
      go_region
      go_wp2_with (fail)
      obtain ⟨k0, -⟩ := txcell hR9 0 _ rfl
      obtain ⟨k1, -⟩ := txcell hR9 1 _ rfl
      obtain ⟨k2, -⟩ := txcell hR9 2 _ rfl
      obtain ⟨k3, -⟩ := txcell hR9 3 _ rfl
      obtain ⟨k4, -⟩ := txcell hR9 4 _ rfl
      exact bodyPost_ret (v := .tuple #[.agg zN, .int .i64 (e : Nat)]) (by simp [results, Tryz.results11, go_sem, k0, k1, k2, k3, k4]) rfl ⟨_, rfl, by rw [HP.out]; rfl, hB9.out⟩
    | ok b =>
      rw [hlt] at hL6
      have gB := HGt.out b hlt
      obtain ⟨nb, cb, n', c', l', d', rfl, hM, hY, -, -⟩ := hL6
      have hln' : n' = l' := by have := gB.len; rw [hM.eqlen, hY.eqlen] at this; exact this.symm
      subst hln'
      have hB7 := bal w6 (.cells (sum4 nb cb n' c' n' d' b.k 0) 32)
      have HF7 := HF6.keep hB7
      have hR7 := rb_new w6 (sum4 nb cb n' c' n' d' b.k 0) 32
      have hR67 := hR6.keep hB7
      have hN7 := hN5.below (Nat.le_refl _) (bt2 hB6 hB7)
      have hZ7 := hZ5.below (Nat.le_refl _) (bt2 hB6 hB7)
      have hM7 := hM.below (Nat.le_refl _) hB7
      have hY7 := hY.below (Nat.le_refl _) hB7
      have hnn' : n' ≤ 500 := by have := gB.few; rw [hM.eqlen] at this; exact this
      have hs6 := hB6.size
      have hp7 : w6.heap.size < (w6.alloc (.cells (sum4 nb cb n' c' n' d' b.k 0) 32)).heap.size := by simp
      have HD : Hid (dfS 9 s t = mkS (difS 9 a b)) := by show _ = _; unfold dfS; rw [HLs.out, hlt]
      have fB := mkHid gB.fit
      obtain ⟨a0, a1, a2, a3⟩ := cells4 hR67
      obtain ⟨b0, b1, b2, b3⟩ := cells4 hR7
      clear HGt HEt HLs hN5 hZ5 hM hY hR5 hR6 gB hlt
      go_wp2_with (fail)
      have hp67 : p6 < w6.heap.size := by omega
      generalize w6.heap.size = p7 at hR7 hp7 hp67 b0 b1 b2 b3 ⊢
      generalize w6.alloc (.cells (sum4 nb cb n' c' n' d' b.k 0) 32) = w7 at HF7 hR7 hR67 hN7 hZ7 hM7 hY7 hp7 a0 a1 a2 a3 b0 b1 b2 b3 hB7 ⊢
      have P1 := mkHid (rplus_at a b na ca nb cb n c n d n' c' n' d' true w7 hN7 hZ7 hM7 hY7 (by omega) (by omega) fA.out fB.out rfl rfl)
      clear hB6 hB7 HF5 HF6 hW5 a0 a1 a2 a3 b0 b1 b2 b3
      refine P1.out.mono ?_
      rintro e w8 ⟨v8, rfl, hS8, hB8⟩
      obtain ⟨n8, c8, l8, g8, m8, d8, k8, e8, rfl⟩ := hS8.sum.shape
      have HF8 := HF7.keep (bt2 hB8 (bal w8 (.cells (sum4 n8 c8 l8 g8 m8 d8 k8 e8) 32)))
      have hR68 := hR67.keep (bt2 hB8 (bal w8 (.cells (sum4 n8 c8 l8 g8 m8 d8 k8 e8) 32)))
      have hR78 := hR7.keep (bt2 hB8 (bal w8 (.cells (sum4 n8 c8 l8 g8 m8 d8 k8 e8) 32)))
      have hR8 := rb_new w8 (sum4 n8 c8 l8 g8 m8 d8 k8 e8) 32
      clear P1
      have HBD := mkHid (bd_of (w := w) (m := m) HA.out HD.out)
      have HDG : Hid (∀ D, mkS (difS 9 a b) = .ok D → D.good nmB 1000) := fun D h => HGD.out D (HD.out.trans h)
      have hs8 := HF8.size
      have hB78 := bt2 hB8 (bal w8 (.cells (sum4 n8 c8 l8 g8 m8 d8 k8 e8) 32))
      have hS9 := (hS8.below (bal w8 (.cells (sum4 n8 c8 l8 g8 m8 d8 k8 e8) 32))).base (B' := w.heap.size) (by have := HF7.size; omega)
      have hp8 : w8.heap.size < (w8.alloc (.cells (sum4 n8 c8 l8 g8 m8 d8 k8 e8) 32)).heap.size := by simp
      have hq8 : w.heap.size + 1 < w8.heap.size := by have := HF7.size; have := hB8.size; omega
      have hp78 : p7 < w8.heap.size := Nat.lt_of_lt_of_le hp7 hB8.size
      have hN9 := hN7.below (Nat.le_refl _) hB78
      have hZ9 := hZ7.below (Nat.le_refl _) hB78
      have hM9 := hM7.below (Nat.le_refl _) hB78
      have hY9 := hY7.below (Nat.le_refl _) hB78
      obtain ⟨s0, s1, s2, s3⟩ := cells4 hR8
      obtain ⟨a0, a1, a2, a3⟩ := cells4 hR68
      obtain ⟨b0, b1, b2, b3⟩ := cells4 hR78
      clear HGD HA HD hS8 hB8 hB78 hN7 hZ7 hM7 hY7 hR7 hR67
      have hpS := hp8
      have HFS := HF8
      have hRS := hR8
      have hDS : DSumO w.heap.size _ (mkS (difS 9 a b)) (.agg (sum4 n8 c8 l8 g8 m8 d8 k8 e8)) := hS9
      clear hN9 hZ9 hM9 hY9 hS9 hR68 hR78 a0 a1 a2 a3 b0 b1 b2 b3 fA fB HF8 hR8 hp8
      have hkI : I64 k8 := by
        cases hd : mkS (difS 9 a b) with
        | er e => rw [hd] at hDS; obtain ⟨_, _, _, _, _, _, _, h1, _, h2⟩ := hDS; simp only [Value.agg.injEq] at h1; cases h1; exact h2
        | ok D => rw [hd] at hDS; obtain ⟨_, _, _, _, _, _, h1, _⟩ := hDS; simp only [Value.agg.injEq] at h1; cases h1; exact Sm.fits.k (HDG.out D hd).fit
      have SB : Hid (∀ y : World, Calls Tryz.prog 26 #[.int .i64 0, .int .i64 k8] y fun e w' => e = .returned (.tuple #[.int .i64 (Wd.nOf (-k8)), .int .i64 (Wd.eOf (-k8))]) ∧ Below y.heap.size y w') := fun y => rsub0 k8 y hkI
      go_wp2_with (fail)
      generalize w8.heap.size = p8 at hRS hpS hq8 hp78 s0 s1 s2 s3 ⊢
      generalize w8.alloc (.cells (sum4 n8 c8 l8 g8 m8 d8 k8 e8) 32) = wS at hDS HFS hRS hpS s0 s1 s2 s3 hs8 ⊢
      clear s0 s1 s2 s3
      refine (SB.out wS).mono ?_
      rintro e w11 ⟨rfl, hB11⟩
      have HF11 := HFS.keep hB11
      have hR11 := hRS.keep hB11
      have hD11 := hDS.below hB11
      clear HFS hRS hDS hB11 SB hpS
      go_wp2_with (fail)
      refine (note_any p8 (Wd.nOf (-k8)) (Wd.eOf (-k8)) n8 c8 l8 g8 m8 d8 k8 e8 w11 hR11).mono ?_
      rintro en w12 ⟨rfl, hR12, hX12⟩
      have HF12 := HF11.bux hX12 hq8
      have hD12 := hD11.bux hR11 hX12
      clear HF11 hD11 hR11 hX12
      have hneq : p8 ≠ w.heap.size + 1 := by omega
      -- how it came out
      have OUT : ((if Wd.eOf (-k8) = 0 then e8 else 91) = 91 ∧ atm (.mk 9 x m [s, t] []) = .er 91) ∨ ∃ D, mkS (difS 9 a b) = .ok D ∧ (if Wd.eOf (-k8) = 0 then e8 else 91) = 0 ∧ (Wd.nOf (-k8)) = bdOf 9 D.k ∧ in64 (-D.k) = true ∧ in64 (bdOf 9 D.k) = true := by
        cases hd : mkS (difS 9 a b) with
        | er e0 =>
          rw [hd] at hD12
          obtain ⟨_, _, _, _, _, _, _, h1, h2, _⟩ := hD12
          simp only [Value.agg.injEq] at h1
          cases h1
          have he0 := mkS_er hd
          subst he0
          left
          exact ⟨by simp, HBD.out.no _ hd⟩
        | ok D =>
          rw [hd] at hD12
          obtain ⟨_, _, _, _, _, _, h1, _⟩ := hD12
          simp only [Value.agg.injEq] at h1
          cases h1
          cases c1 : in64 (-D.k) with
          | false =>
            left
            have h9 : ¬ Wd.eOf (-D.k) = 0 := fun h => by rw [eOf_zero.1 h] at c1; cases c1
            exact ⟨by simp [h9], HBD.out.neg D hd c1⟩
          | true =>
            have h9 : Wd.eOf (-D.k) = 0 := eOf_zero.2 c1
            have hbo : bdOf 9 D.k = -D.k := by unfold bdOf; simp
            right
            exact ⟨D, rfl, by simp [h9], by rw [nOf_in c1, hbo], c1, by rw [hbo]; exact c1⟩
      generalize (if Wd.eOf (-k8) = 0 then e8 else 91) = ee at OUT hR12
      generalize (Wd.nOf (-k8)) = bd at OUT ⊢
      rcases OUT with ⟨rfl, hP⟩ | ⟨D, hd, rfl, rfl, c1, c2⟩
      · have HP := mkHid hP
        obtain ⟨m0, m1, m2, m3⟩ := cells4 hR12
        clear HBD HDG hP
        obtain ⟨r0, s0⟩ := txcell HF12.res 0 _ rfl
        obtain ⟨r1, s1⟩ := txcell HF12.res 1 _ rfl
        obtain ⟨r2, s2⟩ := txcell HF12.res 2 _ rfl
        obtain ⟨r3, s3⟩ := txcell HF12.res 3 _ rfl
        obtain ⟨r4, s4⟩ := txcell HF12.res 4 _ rfl
        have hR9 := (rb_five HF12.res rfl (.int .i64 0) (.slice none 0 0) (.slice none 0 0) (.int .i64 0) (.int .i64 0)).keep (Below.refl _ _).drew
        have hB9 := mkHid (bel_st5n (B := w.heap.size + 1) HF12.bel (by omega) (.int .i64 0) (.slice none 0 0) (.slice none 0 0) (.int .i64 0) (.int .i64 0))
        replace hB9 := mkHid hB9.out.drew
        go_wp2_with (fail)
        have hRq := ((((hR12.other hneq 0 (.int .i64 0)).other hneq 1 (.slice none 0 0)).other hneq 2 (.slice none 0 0)).other hneq 3 (.int .i64 0)).other hneq 4 (.int .i64 0)
        have mq := (cells4 (hRq.keep (Below.refl _ _).drew)).2.2.2
        go_region
        go_wp2_with (fail)
        obtain ⟨k0, -⟩ := txcell hR9 0 _ rfl
        obtain ⟨k1, -⟩ := txcell hR9 1 _ rfl
        obtain ⟨k2, -⟩ := txcell hR9 2 _ rfl
        obtain ⟨k3, -⟩ := txcell hR9 3 _ rfl
        obtain ⟨k4, -⟩ := txcell hR9 4 _ rfl
        exact bodyPost_ret (v := .tuple #[.agg zN, .int .i64 91]) (by simp [results, Tryz.results11, go_sem, k0, k1, k2, k3, k4]) rfl ⟨_, rfl, by rw [HP.out]; rfl, hB9.out⟩
      · have gD := HDG.out D hd
        have HBT := mkHid (HBD.out.loose D hd c1 c2)
        have HBG := mkHid (HBD.out.good D hd c1 c2)
        have hbI : I64 (bdOf 9 D.k) := (in64_iff _).1 c2
        have hbx : ∃ bd, bdOf 9 D.k = bd := ⟨_, rfl⟩
        rw [hd] at hD12
        obtain ⟨n1, c1', l1, g1, m1', d1', hv1, hN1, hK1, hO1⟩ := hD12
        simp only [Value.agg.injEq] at hv1
        cases hv1
        obtain ⟨m0, m1, m2, m3⟩ := cells4 hR12
        obtain ⟨b0, b1, b2, b3, b4⟩ := form5 HF12.box
        have hZ1 := rdz_of_own2 hO1
        have hlen : D.cs.length = D.ns.length := gD.len
        have hnl : l8 = D.ns.length := hN1.eqlen.symm
        have hml : m8 = D.cs.length := hZ1.eqlen.symm
        have hfew := gD.few
        have hmm : m8 ≤ 1000 := by omega
        have hcl : D.cs.length ≤ 1000 := by omega
        have hIz : ∀ z ∈ D.cs, I64 z := fun z hz => Sm.fits.c gD.fit z hz
        clear HBD HDG c1 c2 hd hkI hbx hnl hml hlen
        have hb2 := mkHid hbI
        generalize hbe : bdOf 9 D.k = bd at hb2 hbI ⊢
        have hT : Hid (∀ a4 c4 (w4 : World), RdZ w4 a4 (1 + m8) c4 (bd :: D.cs) → ∃ xx er : Int, ((er = 0 ∧ tight (nrOf 9 m D)) ∨ (er ≠ 0 ∧ ¬ tight (nrOf 9 m D))) ∧ Calls Tryz.prog 29 #[.slice a4 (1 + m8) c4] w4 fun e w' => e = .returned (.tuple #[.int .i64 xx, .int .i64 er]) ∧ Below w4.heap.size w4 w') := by
          intro a4 c4 w4 hR4
          have hrow := row_of_rdz hR4 (by
            intro z hz
            rcases List.mem_cons.1 hz with rfl | hz
            · exact hb2.out
            · exact hIz z hz) (by unfold maxLen; omega)
          refine ⟨_, _, ?_, Chk.ref_total _ _ w4 hrow (by rw [List.length_cons]; omega)⟩
          have e : Chk.tot (bd :: D.cs) = bd.natAbs + Chk.tot D.cs := rfl
          have e2 : nrOf 9 m D = ⟨kdOf 9, D.ns, D.cs, bd, m⟩ := by rw [← hbe]; unfold nrOf; rw [if_neg (by decide)]
          rw [e2]
          unfold tight tot Chk.errT
          rw [e]
          by_cases ht : bd.natAbs + Chk.tot D.cs ≤ 9223372036854775807
          · left; exact ⟨if_pos ht, by show Chk.tot D.cs + bd.natAbs ≤ _; omega⟩
          · right; rw [if_neg ht]; exact ⟨by decide, by show ¬ (Chk.tot D.cs + bd.natAbs ≤ _); omega⟩
        have HNR : Hid (nrOf 9 m D = ⟨0, D.ns, D.cs, bd, m⟩) := by
          show _ = _
          rw [← hbe]; unfold nrOf; rw [if_neg (by decide)]; rfl
        have hSh : Short D.ns := fun y hy => by have := name_small ((nmB_iff y).1 (gD.nms y hy)); omega
        have q1 : (w12.alloc (.cells #[.int .i64 bd] 2)).cell? ⟨p8, 1, none⟩ = some (.slice c8 m8 d8) := (cells4 (hR12.keep (bal w12 _))).2.1
        clear hbe gD
        go_wp2_with (at_builtin; refine wp_oneQ w12 rfl (.tmp 126) (.tmp 128) rfl bd rfl c8 m8 d8 D.cs (by go_simp) hZ1 (by omega) ?_; intro a4 c4' w13 hR4 hB13)
        obtain ⟨xx, er, hE, hC⟩ := hT.out a4 c4' w13 hR4
        refine hC.mono ?_
        rintro e w14 ⟨rfl, hB14⟩
        have hB24 := bt2 hB13 hB14
        have HF14 := HF12.keep hB24
        have hR14 := hR12.keep hB24
        have hN14 := hN1.below (Nat.le_refl _) hB24
        have hZ14 := hZ1.below (Nat.le_refl _) hB24
        have hK14 := hK1.below hB24
        have hC14 := (bk_of_owns hO1).below hB24
        clear m0 m1 m2 m3 b0 b1 b2 b3 b4 q1 hT hR4 hC HF12 hR12 hN1 hZ1 hK1 hO1 hB13 hB14 hB24
        rcases hE with ⟨rfl, ht⟩ | ⟨hne, ht⟩
        · have HP := mkHid (HBG.out ht)
          obtain ⟨m0, m1, m2, m3⟩ := cells4 hR14
          obtain ⟨b0, b1, b2, b3, b4⟩ := form5 HF14.box
          obtain ⟨r0, s0⟩ := txcell HF14.res 0 _ rfl
          obtain ⟨r1, s1⟩ := txcell HF14.res 1 _ rfl
          obtain ⟨r2, s2⟩ := txcell HF14.res 2 _ rfl
          obtain ⟨r3, s3⟩ := txcell HF14.res 3 _ rfl
          obtain ⟨r4, s4⟩ := txcell HF14.res 4 _ rfl
          have hR9 := rb_five HF14.res rfl (.int .i64 0) (.slice n8 l8 g8) (.slice c8 m8 d8) (.int .i64 bd) (.int .i64 m)
          have hB9 := mkHid (bel_st5n (B := w.heap.size + 1) HF14.bel (by omega) (.int .i64 0) (.slice n8 l8 g8) (.slice c8 m8 d8) (.int .i64 bd) (.int .i64 m))
          have hM9 := mkHid (NrM.five (N := ⟨0, D.ns, D.cs, bd, m⟩) ⟨hN14, hZ14, hSh, hIz, hb2.out, by unfold maxLen; omega⟩ (hK14.ne HF14.res (by decide)) (hC14.ne HF14.res (by decide)) (.int .i64 0) (.slice n8 l8 g8) (.slice c8 m8 d8) (.int .i64 bd) (.int .i64 m))
          clear HBT HBG ht hN14 hZ14 hK14 hC14
          go_wp2_with (fail)
          obtain ⟨k0, -⟩ := txcell hR9 0 _ rfl
          obtain ⟨k1, -⟩ := txcell hR9 1 _ rfl
          obtain ⟨k2, -⟩ := txcell hR9 2 _ rfl
          obtain ⟨k3, -⟩ := txcell hR9 3 _ rfl
          obtain ⟨k4, -⟩ := txcell hR9 4 _ rfl
          refine bodyPost_ret (v := .tuple #[nrV 0 bd m n8 c8 l8 g8 m8 d8, .int .i64 0]) (by simp [results, Tryz.results11, go_sem, k0, k1, k2, k3, k4]) rfl ⟨_, rfl, ?_, hB9.out⟩
          rw [HP.out, HNR.out]
          exact ⟨_, _, _, _, _, _, rfl, hM9.out⟩
        · have HP := mkHid (HBT.out ht)
          have hx : (er != 0) = true := by rw [bne_iff_ne]; exact hne
          clear HBT HBG ht hne hN14 hZ14 hK14 hC14
          obtain ⟨r0, s0⟩ := txcell HF14.res 0 _ rfl
          obtain ⟨r1, s1⟩ := txcell HF14.res 1 _ rfl
          obtain ⟨r2, s2⟩ := txcell HF14.res 2 _ rfl
          obtain ⟨r3, s3⟩ := txcell HF14.res 3 _ rfl
          obtain ⟨r4, s4⟩ := txcell HF14.res 4 _ rfl
          have hR9 := rb_five HF14.res rfl (.int .i64 0) (.slice none 0 0) (.slice none 0 0) (.int .i64 0) (.int .i64 0)
          have hB9 := mkHid (bel_st5n (B := w.heap.size + 1) HF14.bel (by omega) (.int .i64 0) (.slice none 0 0) (.slice none 0 0) (.int .i64 0) (.int .i64 0))
          go_wp2_with (fail)
          obtain ⟨k0, -⟩ := txcell hR9 0 _ rfl
          obtain ⟨k1, -⟩ := txcell hR9 1 _ rfl
          obtain ⟨k2, -⟩ := txcell hR9 2 _ rfl
          obtain ⟨k3, -⟩ := txcell hR9 3 _ rfl
          obtain ⟨k4, -⟩ := txcell hR9 4 _ rfl
          exact bodyPost_ret (v := .tuple #[.agg zN, .int .i64 91]) (by simp [results, Tryz.results11, go_sem, k0, k1, k2, k3, k4]) rfl ⟨_, rfl, by rw [HP.out]; rfl, hB9.out⟩end Go.Proofs.YtiapkblebbcfbaaGreat.Gl
/- The document's Atom: operation 10. -/
namespace Go.Proofs.YtiapkblebbcfbaaGreat.Gl
open Go Go.RowKit
set_option linter.unusedVariables false
set_option linter.unusedSimpArgs false

set_option maxRecDepth 100000 in
set_option maxHeartbeats 40000000 in
theorem ratom_10 (W : World) (m : Int) (x : ByteArray) (s t : Tm) (v : Value) (w : World) (hv : FmV W (.mk 10 x m [s, t] []) v) (hW : Below W.heap.size W w) (h0 : chk nmB (.mk 10 x m [s, t] []) = 0) (h1 : ¬ ((10 : Int) < 9)) :
    Calls Tryz.prog 11 #[v] w fun e w' => ∃ v', e = .returned v' ∧ RAr w' (atm (.mk 10 x m [s, t] [])) v' ∧ Below w.heap.size w w' := by
  have hwell := fm_right h0
  have hfa := fm_atom hwell.1 h1
  have hs := hwell.2.1 s (List.mem_cons_self ..)
  have ht := hwell.2.1 t (List.mem_cons_of_mem _ (List.mem_cons_self ..))
  have hsz : s.size + t.size ≤ 499 := by have := hwell.2.2; simp only [Tm.sizeL, Fm.sizeL] at this; omega
  have HA : Hid (atm (.mk 10 x m [s, t] []) = match dfS 10 s t with | .er e => .er e | .ok D => finS 10 m D) := (atm_at h0 h1).trans (atmS_eq 10 m s t)
  have HMD := mkHid hfa.2.2
  have CK : Hid (∀ w', Below w.heap.size w w' → Calls Tryz.prog 24 #[v] w' fun e w'' => e = .returned (.int .i64 0) ∧ Below w'.heap.size w' w'') := fun w' h => by
    have := rcheck_at W _ v w' hv (hW.trans (h.mono hW.size))
    rw [h0] at this
    exact this
  obtain ⟨c0, c1, c2, c3, c4, rfl, hr⟩ := hv
  rw [RdF] at hr
  obtain ⟨rfl, rfl, rfl, ⟨hio, him, -⟩, ⟨ao, cap, rfl, hcap, hcm, hk⟩, -⟩ := hr
  obtain ⟨g, of, d0, d1, d2, d3, f0, f1, f2, f3, rfl, q0, q1, q2, q3, hrt, t0, t1, t2, t3, hru, hg⟩ := two_kids hk
  have hcap' : 2 ≤ cap := hcap
  have WS : Hid (∀ y, Below W.heap.size W y → Calls Tryz.prog 17 #[.agg #[d0, d1, d2, d3]] y fun e w' => ∃ v', e = .returned v' ∧ DSum w' (lin s) v' ∧ Below y.heap.size y w') := fun y hy => work_at s hs W (.agg #[d0, d1, d2, d3]) y ⟨_, _, _, _, rfl, hrt⟩ hy (by omega)
  have WT : Hid (∀ y, Below W.heap.size W y → Calls Tryz.prog 17 #[.agg #[f0, f1, f2, f3]] y fun e w' => ∃ v', e = .returned v' ∧ DSum w' (lin t) v' ∧ Below y.heap.size y w') := fun y hy => work_at t ht W (.agg #[f0, f1, f2, f3]) y ⟨_, _, _, _, rfl, hru⟩ hy (by omega)
  have TS : Hid (∀ y : World, Below W.heap.size W y → y.cell? ⟨g, of, none⟩ = some d0 ∧ y.cell? ⟨g, of + 1, none⟩ = some d1 ∧ y.cell? ⟨g, of + 2, none⟩ = some d2 ∧ y.cell? ⟨g, of + 3, none⟩ = some d3) := fun y hy => ⟨(hy.cell (p := ⟨g, of, none⟩) hg).trans q0, (hy.cell (p := ⟨g, of + 1, none⟩) hg).trans q1, (hy.cell (p := ⟨g, of + 2, none⟩) hg).trans q2, (hy.cell (p := ⟨g, of + 3, none⟩) hg).trans q3⟩
  have TU : Hid (∀ y : World, Below W.heap.size W y → y.cell? ⟨g, of + 4, none⟩ = some f0 ∧ y.cell? ⟨g, of + 5, none⟩ = some f1 ∧ y.cell? ⟨g, of + 6, none⟩ = some f2 ∧ y.cell? ⟨g, of + 7, none⟩ = some f3) := fun y hy => ⟨(hy.cell (p := ⟨g, of + 4, none⟩) hg).trans t0, (hy.cell (p := ⟨g, of + 5, none⟩) hg).trans t1, (hy.cell (p := ⟨g, of + 6, none⟩) hg).trans t2, (hy.cell (p := ⟨g, of + 7, none⟩) hg).trans t3⟩
  have HGs : Hid (∀ p, lin s = .ok p → p.good nmB 500) := fun p hp => (lin_good nmB s hs p hp).mono (by omega)
  have HGt : Hid (∀ p, lin t = .ok p → p.good nmB 500) := fun p hp => (lin_good nmB t ht p hp).mono (by omega)
  have HEs : Hid (∀ e, lin s = .er e → e = 90 ∨ e = 91) := lin_er nmB s hs
  have HEt : Hid (∀ e, lin t = .er e → e = 90 ∨ e = 91) := lin_er nmB t ht
  have HGD : Hid (∀ D, dfS 10 s t = .ok D → D.good nmB 1000) := fun D hD => dfS_good hs ht hsz hD
  have HF := frF_new w (.int .i64 10) (.string x) (.int .i64 m) (.slice (some ⟨g, of, none⟩) 2 cap) c4 zN 44
  clear h0 hwell hfa hs ht q0 q1 q2 q3 t0 t1 t2 t3 hrt hru hk
  go_enter Tryz.func11, Tryz.ntmps11
  go_wp2_with (fail)
  generalize (w.alloc (.cells #[.int .i64 10, .string x, .int .i64 m, .slice (some ⟨g, of, none⟩) 2 cap, c4] 41)).alloc (.cells zN 44) = w2 at HF ⊢
  refine (CK.out w2 HF.bel).mono ?_
  rintro e w3 ⟨rfl, hB3⟩
  have HF3 := HF.keep hB3
  obtain ⟨b0, b1, b2, b3, b4⟩ := form5 HF3.box
  have hW3 : Below W.heap.size W w3 := hW.trans (HF3.bel.mono hW.size)
  obtain ⟨p0, p1, p2, p3⟩ := TS.out w3 hW3
  have WS3 := mkHid (WS.out w3 hW3)
  clear CK HF WS TS
  go_wp2_with (fail)
  refine WS3.out.mono ?_
  rintro e w4 ⟨v4, rfl, hL, hB4⟩
  have HF4 := HF3.keep hB4
  clear WS3 b0 b1 b2 b3 b4 p0 p1 p2 p3
  cases hls : lin s with
  | er e =>
    rw [hls] at hL
    have he := HEs.out e hls
    obtain ⟨na, ca, n, c, l, d, ka, rfl, -⟩ := hL
    have hx : ((e : Int) != 0) = true := by rw [bne_iff_ne]; omega
    have HP : Hid (atm (.mk 10 x m [s, t] []) = .er e) := by show _ = _; rw [HA.out]; unfold dfS; rw [hls]
    have HF5 := HF4.keep (bal w4 (.cells (sum4 na ca n c l d ka e) 32))
    have hR5 := rb_new w4 (sum4 na ca n c l d ka e) 32
    clear HGs HGt HEs HEt HGD HA WT TU
    go_wp2_with (fail)
    have hneq : w4.heap.size ≠ w.heap.size + 1 := by have := HF4.size; omega
    generalize w4.alloc (.cells (sum4 na ca n c l d ka e) 32) = w5 at HF5 hR5 ⊢
    obtain ⟨m0, m1, m2, m3⟩ := cells4 hR5
    obtain ⟨r0, s0⟩ := txcell HF5.res 0 _ rfl
    obtain ⟨r1, s1⟩ := txcell HF5.res 1 _ rfl
    obtain ⟨r2, s2⟩ := txcell HF5.res 2 _ rfl
    obtain ⟨r3, s3⟩ := txcell HF5.res 3 _ rfl
    obtain ⟨r4, s4⟩ := txcell HF5.res 4 _ rfl
    have hR9 := (rb_five HF5.res rfl (.int .i64 0) (.slice none 0 0) (.slice none 0 0) (.int .i64 0) (.int .i64 0)).keep (Below.refl _ _).drew
    have hB9 := mkHid (bel_st5n (B := w.heap.size + 1) HF5.bel (by omega) (.int .i64 0) (.slice none 0 0) (.slice none 0 0) (.int .i64 0) (.int .i64 0))
    replace hB9 := mkHid hB9.out.drew
    go_wp2_with (fail)
    have hRq := ((((hR5.other hneq 0 (.int .i64 0)).other hneq 1 (.slice none 0 0)).other hneq 2 (.slice none 0 0)).other hneq 3 (.int .i64 0)).other hneq 4 (.int .i64 0)
    have mq := (cells4 (hRq.keep (Below.refl _ _).drew)).2.2.2
    go_region
    go_wp2_with (fail)
    obtain ⟨k0, -⟩ := txcell hR9 0 _ rfl
    obtain ⟨k1, -⟩ := txcell hR9 1 _ rfl
    obtain ⟨k2, -⟩ := txcell hR9 2 _ rfl
    obtain ⟨k3, -⟩ := txcell hR9 3 _ rfl
    obtain ⟨k4, -⟩ := txcell hR9 4 _ rfl
    exact bodyPost_ret (v := .tuple #[.agg zN, .int .i64 (e : Nat)]) (by simp [results, Tryz.results11, go_sem, k0, k1, k2, k3, k4]) rfl ⟨_, rfl, by rw [HP.out]; rfl, hB9.out⟩
  | ok a =>
    rw [hls] at hL
    have gA := HGs.out a hls
    obtain ⟨na, ca, n, c, l, d, rfl, hN, hZ, hK, hC⟩ := hL
    have hln : n = l := by have := gA.len; rw [hN.eqlen, hZ.eqlen] at this; exact this.symm
    subst hln
    have hB5 := bal w4 (.cells (sum4 na ca n c n d a.k 0) 32)
    have HF5 := HF4.keep hB5
    have hR5 := rb_new w4 (sum4 na ca n c n d a.k 0) 32
    have hW5 : Below W.heap.size W (w4.alloc (.cells (sum4 na ca n c n d a.k 0) 32)) := hW.trans (HF5.bel.mono hW.size)
    obtain ⟨p0, p1, p2, p3⟩ := TU.out _ hW5
    obtain ⟨b0, b1, b2, b3, b4⟩ := form5 HF5.box
    obtain ⟨p0', p1', p2', p3'⟩ := TU.out w4 (hW.trans (HF4.bel.mono hW.size))
    obtain ⟨b0', b1', b2', b3', b4'⟩ := form5 HF4.box
    have WT5 := mkHid (WT.out _ hW5)
    have hN5 := hN.below (Nat.le_refl _) hB5
    have hZ5 := hZ.below (Nat.le_refl _) hB5
    have hnn : n ≤ 500 := by have := gA.few; rw [hN.eqlen] at this; exact this
    have fA := mkHid gA.fit
    have HLs := mkHid hls
    have hs4 := HF4.size
    have hp6 : w4.heap.size < (w4.alloc (.cells (sum4 na ca n c n d a.k 0) 32)).heap.size := by simp
    clear HGs HEs WT TU hN hZ hK hC hls gA
    go_wp2_with (fail)
    generalize w4.heap.size = p6 at hR5 hs4 hp6 ⊢
    generalize w4.alloc (.cells (sum4 na ca n c n d a.k 0) 32) = w5 at hB5 HF5 hR5 hW5 WT5 hN5 hZ5 hp6 p0 p1 p2 p3 b0 b1 b2 b3 b4 ⊢
    clear hB5 hB4 HF4 p0 p1 p2 p3 b0 b1 b2 b3 b4 p0' p1' p2' p3' b0' b1' b2' b3' b4'
    refine WT5.out.mono ?_
    rintro e w6 ⟨v6, rfl, hL6, hB6⟩
    have HF6 := HF5.keep hB6
    have hR6 := hR5.keep hB6
    clear WT5
    cases hlt : lin t with
    | er e =>
      rw [hlt] at hL6
      have he := HEt.out e hlt
      obtain ⟨nb, cb, n', c', l', d', kb, rfl, -⟩ := hL6
      have hx : ((e : Int) != 0) = true := by rw [bne_iff_ne]; omega
      have HP : Hid (atm (.mk 10 x m [s, t] []) = .er e) := by show _ = _; rw [HA.out]; unfold dfS; rw [HLs.out, hlt]
      have HF7 := HF6.keep (bal w6 (.cells (sum4 nb cb n' c' l' d' kb e) 32))
      have hR7 := rb_new w6 (sum4 nb cb n' c' l' d' kb e) 32
      have hneq : w6.heap.size ≠ w.heap.size + 1 := by have := HF6.size; omega
      clear HGt HEt HGD HA HLs hN5 hZ5 fA hR5 hR6
      go_wp2_with (fail)
      generalize w6.alloc (.cells (sum4 nb cb n' c' l' d' kb e) 32) = w7 at HF7 hR7 ⊢
      obtain ⟨m0, m1, m2, m3⟩ := cells4 hR7
      obtain ⟨r0, s0⟩ := txcell HF7.res 0 _ rfl
      obtain ⟨r1, s1⟩ := txcell HF7.res 1 _ rfl
      obtain ⟨r2, s2⟩ := txcell HF7.res 2 _ rfl
      obtain ⟨r3, s3⟩ := txcell HF7.res 3 _ rfl
      obtain ⟨r4, s4⟩ := txcell HF7.res 4 _ rfl
      have hR9 := (rb_five HF7.res rfl (.int .i64 0) (.slice none 0 0) (.slice none 0 0) (.int .i64 0) (.int .i64 0)).keep (Below.refl _ _).drew
      have hB9 := mkHid (bel_st5n (B := w.heap.size + 1) HF7.bel (by omega) (.int .i64 0) (.slice none 0 0) (.slice none 0 0) (.int .i64 0) (.int .i64 0))
      replace hB9 := mkHid hB9.out.drew
      go_wp2_with (fail)
      have hRq := ((((hR7.other hneq 0 (.int .i64 0)).other hneq 1 (.slice none 0 0)).other hneq 2 (.slice none 0 0)).other hneq 3 (.int .i64 0)).other hneq 4 (.int .i64 0)
      have mq := (cells4 (hRq.keep (Below.refl _ _).drew)).2.2.2
      go_region
      go_wp2_with (fail)
      obtain ⟨k0, -⟩ := txcell hR9 0 _ rfl
      obtain ⟨k1, -⟩ := txcell hR9 1 _ rfl
      obtain ⟨k2, -⟩ := txcell hR9 2 _ rfl
      obtain ⟨k3, -⟩ := txcell hR9 3 _ rfl
      obtain ⟨k4, -⟩ := txcell hR9 4 _ rfl
      exact bodyPost_ret (v := .tuple #[.agg zN, .int .i64 (e : Nat)]) (by simp [results, Tryz.results11, go_sem, k0, k1, k2, k3, k4]) rfl ⟨_, rfl, by rw [HP.out]; rfl, hB9.out⟩
    | ok b =>
      rw [hlt] at hL6
      have gB := HGt.out b hlt
      obtain ⟨nb, cb, n', c', l', d', rfl, hM, hY, -, -⟩ := hL6
      have hln' : n' = l' := by have := gB.len; rw [hM.eqlen, hY.eqlen] at this; exact this.symm
      subst hln'
      have hB7 := bal w6 (.cells (sum4 nb cb n' c' n' d' b.k 0) 32)
      have HF7 := HF6.keep hB7
      have hR7 := rb_new w6 (sum4 nb cb n' c' n' d' b.k 0) 32
      have hR67 := hR6.keep hB7
      have hN7 := hN5.below (Nat.le_refl _) (bt2 hB6 hB7)
      have hZ7 := hZ5.below (Nat.le_refl _) (bt2 hB6 hB7)
      have hM7 := hM.below (Nat.le_refl _) hB7
      have hY7 := hY.below (Nat.le_refl _) hB7
      have hnn' : n' ≤ 500 := by have := gB.few; rw [hM.eqlen] at this; exact this
      have hs6 := hB6.size
      have hp7 : w6.heap.size < (w6.alloc (.cells (sum4 nb cb n' c' n' d' b.k 0) 32)).heap.size := by simp
      have HD : Hid (dfS 10 s t = mkS (difS 10 a b)) := by show _ = _; unfold dfS; rw [HLs.out, hlt]
      have fB := mkHid gB.fit
      obtain ⟨a0, a1, a2, a3⟩ := cells4 hR67
      obtain ⟨b0, b1, b2, b3⟩ := cells4 hR7
      clear HGt HEt HLs hN5 hZ5 hM hY hR5 hR6 gB hlt
      go_wp2_with (fail)
      have hp67 : p6 < w6.heap.size := by omega
      generalize w6.heap.size = p7 at hR7 hp7 hp67 b0 b1 b2 b3 ⊢
      generalize w6.alloc (.cells (sum4 nb cb n' c' n' d' b.k 0) 32) = w7 at HF7 hR7 hR67 hN7 hZ7 hM7 hY7 hp7 a0 a1 a2 a3 b0 b1 b2 b3 hB7 ⊢
      have P1 := mkHid (rplus_at a b na ca nb cb n c n d n' c' n' d' true w7 hN7 hZ7 hM7 hY7 (by omega) (by omega) fA.out fB.out rfl rfl)
      clear hB6 hB7 HF5 HF6 hW5 a0 a1 a2 a3 b0 b1 b2 b3
      refine P1.out.mono ?_
      rintro e w8 ⟨v8, rfl, hS8, hB8⟩
      obtain ⟨n8, c8, l8, g8, m8, d8, k8, e8, rfl⟩ := hS8.sum.shape
      have HF8 := HF7.keep (bt2 hB8 (bal w8 (.cells (sum4 n8 c8 l8 g8 m8 d8 k8 e8) 32)))
      have hR68 := hR67.keep (bt2 hB8 (bal w8 (.cells (sum4 n8 c8 l8 g8 m8 d8 k8 e8) 32)))
      have hR78 := hR7.keep (bt2 hB8 (bal w8 (.cells (sum4 n8 c8 l8 g8 m8 d8 k8 e8) 32)))
      have hR8 := rb_new w8 (sum4 n8 c8 l8 g8 m8 d8 k8 e8) 32
      clear P1
      have HBD := mkHid (bd_of (w := w) (m := m) HA.out HD.out)
      have HDG : Hid (∀ D, mkS (difS 10 a b) = .ok D → D.good nmB 1000) := fun D h => HGD.out D (HD.out.trans h)
      have hs8 := HF8.size
      have hB78 := bt2 hB8 (bal w8 (.cells (sum4 n8 c8 l8 g8 m8 d8 k8 e8) 32))
      have hS9 := (hS8.below (bal w8 (.cells (sum4 n8 c8 l8 g8 m8 d8 k8 e8) 32))).base (B' := w.heap.size) (by have := HF7.size; omega)
      have hp8 : w8.heap.size < (w8.alloc (.cells (sum4 n8 c8 l8 g8 m8 d8 k8 e8) 32)).heap.size := by simp
      have hq8 : w.heap.size + 1 < w8.heap.size := by have := HF7.size; have := hB8.size; omega
      have hp78 : p7 < w8.heap.size := Nat.lt_of_lt_of_le hp7 hB8.size
      have hN9 := hN7.below (Nat.le_refl _) hB78
      have hZ9 := hZ7.below (Nat.le_refl _) hB78
      have hM9 := hM7.below (Nat.le_refl _) hB78
      have hY9 := hY7.below (Nat.le_refl _) hB78
      obtain ⟨s0, s1, s2, s3⟩ := cells4 hR8
      obtain ⟨a0, a1, a2, a3⟩ := cells4 hR68
      obtain ⟨b0, b1, b2, b3⟩ := cells4 hR78
      clear HGD HA HD hS8 hB8 hB78 hN7 hZ7 hM7 hY7 hR7 hR67
      have hpS := hp8
      have HFS := HF8
      have hRS := hR8
      have hDS : DSumO w.heap.size _ (mkS (difS 10 a b)) (.agg (sum4 n8 c8 l8 g8 m8 d8 k8 e8)) := hS9
      clear hN9 hZ9 hM9 hY9 hS9 hR68 hR78 a0 a1 a2 a3 b0 b1 b2 b3 fA fB HF8 hR8 hp8
      have hkI : I64 k8 := by
        cases hd : mkS (difS 10 a b) with
        | er e => rw [hd] at hDS; obtain ⟨_, _, _, _, _, _, _, h1, _, h2⟩ := hDS; simp only [Value.agg.injEq] at h1; cases h1; exact h2
        | ok D => rw [hd] at hDS; obtain ⟨_, _, _, _, _, _, h1, _⟩ := hDS; simp only [Value.agg.injEq] at h1; cases h1; exact Sm.fits.k (HDG.out D hd).fit
      have SB : Hid (∀ y : World, Calls Tryz.prog 26 #[.int .i64 0, .int .i64 k8] y fun e w' => e = .returned (.tuple #[.int .i64 (Wd.nOf (-k8)), .int .i64 (Wd.eOf (-k8))]) ∧ Below y.heap.size y w') := fun y => rsub0 k8 y hkI
      go_wp2_with (fail)
      generalize w8.heap.size = p8 at hRS hpS hq8 hp78 s0 s1 s2 s3 ⊢
      generalize w8.alloc (.cells (sum4 n8 c8 l8 g8 m8 d8 k8 e8) 32) = wS at hDS HFS hRS hpS s0 s1 s2 s3 hs8 ⊢
      clear s0 s1 s2 s3
      refine (SB.out wS).mono ?_
      rintro e w11 ⟨rfl, hB11⟩
      have HF11 := HFS.keep hB11
      have hR11 := hRS.keep hB11
      have hD11 := hDS.below hB11
      clear HFS hRS hDS hB11 SB hpS
      go_wp2_with (fail)
      refine (note_any p8 (Wd.nOf (-k8)) (Wd.eOf (-k8)) n8 c8 l8 g8 m8 d8 k8 e8 w11 hR11).mono ?_
      rintro en w12 ⟨rfl, hR12, hX12⟩
      have HF12 := HF11.bux hX12 hq8
      have hD12 := hD11.bux hR11 hX12
      clear HF11 hD11 hR11 hX12
      have SB2 := mkHid (rsub1 (Wd.nOf (-k8)) w12 (nOf_i64 _))
      go_wp2_with (fail)
      refine SB2.out.mono ?_
      rintro e w13 ⟨rfl, hB13⟩
      have HF13 := HF12.keep hB13
      have hR13 := hR12.keep hB13
      have hD13 := hD12.below hB13
      clear HF12 hR12 hD12 hB13 SB2
      go_wp2_with (fail)
      refine (note_any p8 (Wd.nOf (Wd.nOf (-k8) - 1)) (Wd.eOf (Wd.nOf (-k8) - 1)) n8 c8 l8 g8 m8 d8 k8 (if Wd.eOf (-k8) = 0 then e8 else 91) w13 hR13).mono ?_
      rintro en w12 ⟨rfl, hR12, hX12⟩
      have HF12 := HF13.bux hX12 hq8
      have hD12 := hD13.bux hR13 hX12
      clear HF13 hD13 hR13 hX12
      have hneq : p8 ≠ w.heap.size + 1 := by omega
      -- how it came out
      have OUT : ((if Wd.eOf (Wd.nOf (-k8) - 1) = 0 then (if Wd.eOf (-k8) = 0 then e8 else 91) else 91) = 91 ∧ atm (.mk 10 x m [s, t] []) = .er 91) ∨ ∃ D, mkS (difS 10 a b) = .ok D ∧ (if Wd.eOf (Wd.nOf (-k8) - 1) = 0 then (if Wd.eOf (-k8) = 0 then e8 else 91) else 91) = 0 ∧ (Wd.nOf (Wd.nOf (-k8) - 1)) = bdOf 10 D.k ∧ in64 (-D.k) = true ∧ in64 (bdOf 10 D.k) = true := by
        cases hd : mkS (difS 10 a b) with
        | er e0 =>
          rw [hd] at hD12
          obtain ⟨_, _, _, _, _, _, _, h1, h2, _⟩ := hD12
          simp only [Value.agg.injEq] at h1
          cases h1
          have he0 := mkS_er hd
          subst he0
          left
          exact ⟨by simp, HBD.out.no _ hd⟩
        | ok D =>
          rw [hd] at hD12
          obtain ⟨_, _, _, _, _, _, h1, _⟩ := hD12
          simp only [Value.agg.injEq] at h1
          cases h1
          cases c1 : in64 (-D.k) with
          | false =>
            left
            have h9 : ¬ Wd.eOf (-D.k) = 0 := fun h => by rw [eOf_zero.1 h] at c1; cases c1
            exact ⟨by simp [h9], HBD.out.neg D hd c1⟩
          | true =>
            have h9 : Wd.eOf (-D.k) = 0 := eOf_zero.2 c1
            have hbo : bdOf 10 D.k = -D.k - 1 := by unfold bdOf; simp
            cases c2 : in64 (-D.k - 1) with
            | false =>
              left
              have h8 : ¬ Wd.eOf (Wd.nOf (-D.k) - 1) = 0 := fun h => by rw [nOf_in c1] at h; rw [eOf_zero.1 h] at c2; cases c2
              exact ⟨by simp [h8], HBD.out.wide D hd (by rw [hbo]; exact c2)⟩
            | true =>
              right
              have h8 : Wd.eOf (Wd.nOf (-D.k) - 1) = 0 := by rw [nOf_in c1]; exact eOf_zero.2 c2
              exact ⟨D, rfl, by simp [h8, h9], by rw [nOf_in c1, nOf_in c2, hbo], c1, by rw [hbo]; exact c2⟩
      generalize (if Wd.eOf (Wd.nOf (-k8) - 1) = 0 then (if Wd.eOf (-k8) = 0 then e8 else 91) else 91) = ee at OUT hR12
      generalize (Wd.nOf (Wd.nOf (-k8) - 1)) = bd at OUT ⊢
      rcases OUT with ⟨rfl, hP⟩ | ⟨D, hd, rfl, rfl, c1, c2⟩
      · have HP := mkHid hP
        obtain ⟨m0, m1, m2, m3⟩ := cells4 hR12
        clear HBD HDG hP
        obtain ⟨r0, s0⟩ := txcell HF12.res 0 _ rfl
        obtain ⟨r1, s1⟩ := txcell HF12.res 1 _ rfl
        obtain ⟨r2, s2⟩ := txcell HF12.res 2 _ rfl
        obtain ⟨r3, s3⟩ := txcell HF12.res 3 _ rfl
        obtain ⟨r4, s4⟩ := txcell HF12.res 4 _ rfl
        have hR9 := (rb_five HF12.res rfl (.int .i64 0) (.slice none 0 0) (.slice none 0 0) (.int .i64 0) (.int .i64 0)).keep (Below.refl _ _).drew
        have hB9 := mkHid (bel_st5n (B := w.heap.size + 1) HF12.bel (by omega) (.int .i64 0) (.slice none 0 0) (.slice none 0 0) (.int .i64 0) (.int .i64 0))
        replace hB9 := mkHid hB9.out.drew
        go_wp2_with (fail)
        have hRq := ((((hR12.other hneq 0 (.int .i64 0)).other hneq 1 (.slice none 0 0)).other hneq 2 (.slice none 0 0)).other hneq 3 (.int .i64 0)).other hneq 4 (.int .i64 0)
        have mq := (cells4 (hRq.keep (Below.refl _ _).drew)).2.2.2
        go_region
        go_wp2_with (fail)
        obtain ⟨k0, -⟩ := txcell hR9 0 _ rfl
        obtain ⟨k1, -⟩ := txcell hR9 1 _ rfl
        obtain ⟨k2, -⟩ := txcell hR9 2 _ rfl
        obtain ⟨k3, -⟩ := txcell hR9 3 _ rfl
        obtain ⟨k4, -⟩ := txcell hR9 4 _ rfl
        exact bodyPost_ret (v := .tuple #[.agg zN, .int .i64 91]) (by simp [results, Tryz.results11, go_sem, k0, k1, k2, k3, k4]) rfl ⟨_, rfl, by rw [HP.out]; rfl, hB9.out⟩
      · have gD := HDG.out D hd
        have HBT := mkHid (HBD.out.loose D hd c1 c2)
        have HBG := mkHid (HBD.out.good D hd c1 c2)
        have hbI : I64 (bdOf 10 D.k) := (in64_iff _).1 c2
        have hbx : ∃ bd, bdOf 10 D.k = bd := ⟨_, rfl⟩
        rw [hd] at hD12
        obtain ⟨n1, c1', l1, g1, m1', d1', hv1, hN1, hK1, hO1⟩ := hD12
        simp only [Value.agg.injEq] at hv1
        cases hv1
        obtain ⟨m0, m1, m2, m3⟩ := cells4 hR12
        obtain ⟨b0, b1, b2, b3, b4⟩ := form5 HF12.box
        have hZ1 := rdz_of_own2 hO1
        have hlen : D.cs.length = D.ns.length := gD.len
        have hnl : l8 = D.ns.length := hN1.eqlen.symm
        have hml : m8 = D.cs.length := hZ1.eqlen.symm
        have hfew := gD.few
        have hmm : m8 ≤ 1000 := by omega
        have hcl : D.cs.length ≤ 1000 := by omega
        have hIz : ∀ z ∈ D.cs, I64 z := fun z hz => Sm.fits.c gD.fit z hz
        clear HBD HDG c1 c2 hd hkI hbx hnl hml hlen
        have hb2 := mkHid hbI
        generalize hbe : bdOf 10 D.k = bd at hb2 hbI ⊢
        have hT : Hid (∀ a4 c4 (w4 : World), RdZ w4 a4 (1 + m8) c4 (bd :: D.cs) → ∃ xx er : Int, ((er = 0 ∧ tight (nrOf 10 m D)) ∨ (er ≠ 0 ∧ ¬ tight (nrOf 10 m D))) ∧ Calls Tryz.prog 29 #[.slice a4 (1 + m8) c4] w4 fun e w' => e = .returned (.tuple #[.int .i64 xx, .int .i64 er]) ∧ Below w4.heap.size w4 w') := by
          intro a4 c4 w4 hR4
          have hrow := row_of_rdz hR4 (by
            intro z hz
            rcases List.mem_cons.1 hz with rfl | hz
            · exact hb2.out
            · exact hIz z hz) (by unfold maxLen; omega)
          refine ⟨_, _, ?_, Chk.ref_total _ _ w4 hrow (by rw [List.length_cons]; omega)⟩
          have e : Chk.tot (bd :: D.cs) = bd.natAbs + Chk.tot D.cs := rfl
          have e2 : nrOf 10 m D = ⟨kdOf 10, D.ns, D.cs, bd, m⟩ := by rw [← hbe]; unfold nrOf; rw [if_neg (by decide)]
          rw [e2]
          unfold tight tot Chk.errT
          rw [e]
          by_cases ht : bd.natAbs + Chk.tot D.cs ≤ 9223372036854775807
          · left; exact ⟨if_pos ht, by show Chk.tot D.cs + bd.natAbs ≤ _; omega⟩
          · right; rw [if_neg ht]; exact ⟨by decide, by show ¬ (Chk.tot D.cs + bd.natAbs ≤ _); omega⟩
        have HNR : Hid (nrOf 10 m D = ⟨0, D.ns, D.cs, bd, m⟩) := by
          show _ = _
          rw [← hbe]; unfold nrOf; rw [if_neg (by decide)]; rfl
        have hSh : Short D.ns := fun y hy => by have := name_small ((nmB_iff y).1 (gD.nms y hy)); omega
        have q1 : (w12.alloc (.cells #[.int .i64 bd] 2)).cell? ⟨p8, 1, none⟩ = some (.slice c8 m8 d8) := (cells4 (hR12.keep (bal w12 _))).2.1
        clear hbe gD
        go_wp2_with (at_builtin; refine wp_oneQ w12 rfl (.tmp 126) (.tmp 128) rfl bd rfl c8 m8 d8 D.cs (by go_simp) hZ1 (by omega) ?_; intro a4 c4' w13 hR4 hB13)
        obtain ⟨xx, er, hE, hC⟩ := hT.out a4 c4' w13 hR4
        refine hC.mono ?_
        rintro e w14 ⟨rfl, hB14⟩
        have hB24 := bt2 hB13 hB14
        have HF14 := HF12.keep hB24
        have hR14 := hR12.keep hB24
        have hN14 := hN1.below (Nat.le_refl _) hB24
        have hZ14 := hZ1.below (Nat.le_refl _) hB24
        have hK14 := hK1.below hB24
        have hC14 := (bk_of_owns hO1).below hB24
        clear m0 m1 m2 m3 b0 b1 b2 b3 b4 q1 hT hR4 hC HF12 hR12 hN1 hZ1 hK1 hO1 hB13 hB14 hB24
        rcases hE with ⟨rfl, ht⟩ | ⟨hne, ht⟩
        · have HP := mkHid (HBG.out ht)
          obtain ⟨m0, m1, m2, m3⟩ := cells4 hR14
          obtain ⟨b0, b1, b2, b3, b4⟩ := form5 HF14.box
          obtain ⟨r0, s0⟩ := txcell HF14.res 0 _ rfl
          obtain ⟨r1, s1⟩ := txcell HF14.res 1 _ rfl
          obtain ⟨r2, s2⟩ := txcell HF14.res 2 _ rfl
          obtain ⟨r3, s3⟩ := txcell HF14.res 3 _ rfl
          obtain ⟨r4, s4⟩ := txcell HF14.res 4 _ rfl
          have hR9 := rb_five HF14.res rfl (.int .i64 0) (.slice n8 l8 g8) (.slice c8 m8 d8) (.int .i64 bd) (.int .i64 m)
          have hB9 := mkHid (bel_st5n (B := w.heap.size + 1) HF14.bel (by omega) (.int .i64 0) (.slice n8 l8 g8) (.slice c8 m8 d8) (.int .i64 bd) (.int .i64 m))
          have hM9 := mkHid (NrM.five (N := ⟨0, D.ns, D.cs, bd, m⟩) ⟨hN14, hZ14, hSh, hIz, hb2.out, by unfold maxLen; omega⟩ (hK14.ne HF14.res (by decide)) (hC14.ne HF14.res (by decide)) (.int .i64 0) (.slice n8 l8 g8) (.slice c8 m8 d8) (.int .i64 bd) (.int .i64 m))
          clear HBT HBG ht hN14 hZ14 hK14 hC14
          go_wp2_with (fail)
          obtain ⟨k0, -⟩ := txcell hR9 0 _ rfl
          obtain ⟨k1, -⟩ := txcell hR9 1 _ rfl
          obtain ⟨k2, -⟩ := txcell hR9 2 _ rfl
          obtain ⟨k3, -⟩ := txcell hR9 3 _ rfl
          obtain ⟨k4, -⟩ := txcell hR9 4 _ rfl
          refine bodyPost_ret (v := .tuple #[nrV 0 bd m n8 c8 l8 g8 m8 d8, .int .i64 0]) (by simp [results, Tryz.results11, go_sem, k0, k1, k2, k3, k4]) rfl ⟨_, rfl, ?_, hB9.out⟩
          rw [HP.out, HNR.out]
          exact ⟨_, _, _, _, _, _, rfl, hM9.out⟩
        · have HP := mkHid (HBT.out ht)
          have hx : (er != 0) = true := by rw [bne_iff_ne]; exact hne
          clear HBT HBG ht hne hN14 hZ14 hK14 hC14
          obtain ⟨r0, s0⟩ := txcell HF14.res 0 _ rfl
          obtain ⟨r1, s1⟩ := txcell HF14.res 1 _ rfl
          obtain ⟨r2, s2⟩ := txcell HF14.res 2 _ rfl
          obtain ⟨r3, s3⟩ := txcell HF14.res 3 _ rfl
          obtain ⟨r4, s4⟩ := txcell HF14.res 4 _ rfl
          have hR9 := rb_five HF14.res rfl (.int .i64 0) (.slice none 0 0) (.slice none 0 0) (.int .i64 0) (.int .i64 0)
          have hB9 := mkHid (bel_st5n (B := w.heap.size + 1) HF14.bel (by omega) (.int .i64 0) (.slice none 0 0) (.slice none 0 0) (.int .i64 0) (.int .i64 0))
          go_wp2_with (fail)
          obtain ⟨k0, -⟩ := txcell hR9 0 _ rfl
          obtain ⟨k1, -⟩ := txcell hR9 1 _ rfl
          obtain ⟨k2, -⟩ := txcell hR9 2 _ rfl
          obtain ⟨k3, -⟩ := txcell hR9 3 _ rfl
          obtain ⟨k4, -⟩ := txcell hR9 4 _ rfl
          exact bodyPost_ret (v := .tuple #[.agg zN, .int .i64 91]) (by simp [results, Tryz.results11, go_sem, k0, k1, k2, k3, k4]) rfl ⟨_, rfl, by rw [HP.out]; rfl, hB9.out⟩end Go.Proofs.YtiapkblebbcfbaaGreat.Gl
/- The document's Atom: operation 11. -/
namespace Go.Proofs.YtiapkblebbcfbaaGreat.Gl
open Go Go.RowKit
set_option linter.unusedVariables false
set_option linter.unusedSimpArgs false

set_option maxRecDepth 100000 in
set_option maxHeartbeats 40000000 in
theorem ratom_11 (W : World) (m : Int) (x : ByteArray) (s t : Tm) (v : Value) (w : World) (hv : FmV W (.mk 11 x m [s, t] []) v) (hW : Below W.heap.size W w) (h0 : chk nmB (.mk 11 x m [s, t] []) = 0) (h1 : ¬ ((11 : Int) < 9)) :
    Calls Tryz.prog 11 #[v] w fun e w' => ∃ v', e = .returned v' ∧ RAr w' (atm (.mk 11 x m [s, t] [])) v' ∧ Below w.heap.size w w' := by
  have hwell := fm_right h0
  have hfa := fm_atom hwell.1 h1
  have hs := hwell.2.1 s (List.mem_cons_self ..)
  have ht := hwell.2.1 t (List.mem_cons_of_mem _ (List.mem_cons_self ..))
  have hsz : s.size + t.size ≤ 499 := by have := hwell.2.2; simp only [Tm.sizeL, Fm.sizeL] at this; omega
  have HA : Hid (atm (.mk 11 x m [s, t] []) = match dfS 11 s t with | .er e => .er e | .ok D => finS 11 m D) := (atm_at h0 h1).trans (atmS_eq 11 m s t)
  have HMD := mkHid hfa.2.2
  have CK : Hid (∀ w', Below w.heap.size w w' → Calls Tryz.prog 24 #[v] w' fun e w'' => e = .returned (.int .i64 0) ∧ Below w'.heap.size w' w'') := fun w' h => by
    have := rcheck_at W _ v w' hv (hW.trans (h.mono hW.size))
    rw [h0] at this
    exact this
  obtain ⟨c0, c1, c2, c3, c4, rfl, hr⟩ := hv
  rw [RdF] at hr
  obtain ⟨rfl, rfl, rfl, ⟨hio, him, -⟩, ⟨ao, cap, rfl, hcap, hcm, hk⟩, -⟩ := hr
  obtain ⟨g, of, d0, d1, d2, d3, f0, f1, f2, f3, rfl, q0, q1, q2, q3, hrt, t0, t1, t2, t3, hru, hg⟩ := two_kids hk
  have hcap' : 2 ≤ cap := hcap
  have WS : Hid (∀ y, Below W.heap.size W y → Calls Tryz.prog 17 #[.agg #[d0, d1, d2, d3]] y fun e w' => ∃ v', e = .returned v' ∧ DSum w' (lin s) v' ∧ Below y.heap.size y w') := fun y hy => work_at s hs W (.agg #[d0, d1, d2, d3]) y ⟨_, _, _, _, rfl, hrt⟩ hy (by omega)
  have WT : Hid (∀ y, Below W.heap.size W y → Calls Tryz.prog 17 #[.agg #[f0, f1, f2, f3]] y fun e w' => ∃ v', e = .returned v' ∧ DSum w' (lin t) v' ∧ Below y.heap.size y w') := fun y hy => work_at t ht W (.agg #[f0, f1, f2, f3]) y ⟨_, _, _, _, rfl, hru⟩ hy (by omega)
  have TS : Hid (∀ y : World, Below W.heap.size W y → y.cell? ⟨g, of, none⟩ = some d0 ∧ y.cell? ⟨g, of + 1, none⟩ = some d1 ∧ y.cell? ⟨g, of + 2, none⟩ = some d2 ∧ y.cell? ⟨g, of + 3, none⟩ = some d3) := fun y hy => ⟨(hy.cell (p := ⟨g, of, none⟩) hg).trans q0, (hy.cell (p := ⟨g, of + 1, none⟩) hg).trans q1, (hy.cell (p := ⟨g, of + 2, none⟩) hg).trans q2, (hy.cell (p := ⟨g, of + 3, none⟩) hg).trans q3⟩
  have TU : Hid (∀ y : World, Below W.heap.size W y → y.cell? ⟨g, of + 4, none⟩ = some f0 ∧ y.cell? ⟨g, of + 5, none⟩ = some f1 ∧ y.cell? ⟨g, of + 6, none⟩ = some f2 ∧ y.cell? ⟨g, of + 7, none⟩ = some f3) := fun y hy => ⟨(hy.cell (p := ⟨g, of + 4, none⟩) hg).trans t0, (hy.cell (p := ⟨g, of + 5, none⟩) hg).trans t1, (hy.cell (p := ⟨g, of + 6, none⟩) hg).trans t2, (hy.cell (p := ⟨g, of + 7, none⟩) hg).trans t3⟩
  have HGs : Hid (∀ p, lin s = .ok p → p.good nmB 500) := fun p hp => (lin_good nmB s hs p hp).mono (by omega)
  have HGt : Hid (∀ p, lin t = .ok p → p.good nmB 500) := fun p hp => (lin_good nmB t ht p hp).mono (by omega)
  have HEs : Hid (∀ e, lin s = .er e → e = 90 ∨ e = 91) := lin_er nmB s hs
  have HEt : Hid (∀ e, lin t = .er e → e = 90 ∨ e = 91) := lin_er nmB t ht
  have HGD : Hid (∀ D, dfS 11 s t = .ok D → D.good nmB 1000) := fun D hD => dfS_good hs ht hsz hD
  have HF := frF_new w (.int .i64 11) (.string x) (.int .i64 m) (.slice (some ⟨g, of, none⟩) 2 cap) c4 zN 44
  clear h0 hwell hfa hs ht q0 q1 q2 q3 t0 t1 t2 t3 hrt hru hk
  go_enter Tryz.func11, Tryz.ntmps11
  go_wp2_with (fail)
  generalize (w.alloc (.cells #[.int .i64 11, .string x, .int .i64 m, .slice (some ⟨g, of, none⟩) 2 cap, c4] 41)).alloc (.cells zN 44) = w2 at HF ⊢
  refine (CK.out w2 HF.bel).mono ?_
  rintro e w3 ⟨rfl, hB3⟩
  have HF3 := HF.keep hB3
  obtain ⟨b0, b1, b2, b3, b4⟩ := form5 HF3.box
  have hW3 : Below W.heap.size W w3 := hW.trans (HF3.bel.mono hW.size)
  obtain ⟨p0, p1, p2, p3⟩ := TS.out w3 hW3
  have WS3 := mkHid (WS.out w3 hW3)
  clear CK HF WS TS
  go_wp2_with (fail)
  refine WS3.out.mono ?_
  rintro e w4 ⟨v4, rfl, hL, hB4⟩
  have HF4 := HF3.keep hB4
  clear WS3 b0 b1 b2 b3 b4 p0 p1 p2 p3
  cases hls : lin s with
  | er e =>
    rw [hls] at hL
    have he := HEs.out e hls
    obtain ⟨na, ca, n, c, l, d, ka, rfl, -⟩ := hL
    have hx : ((e : Int) != 0) = true := by rw [bne_iff_ne]; omega
    have HP : Hid (atm (.mk 11 x m [s, t] []) = .er e) := by show _ = _; rw [HA.out]; unfold dfS; rw [hls]
    have HF5 := HF4.keep (bal w4 (.cells (sum4 na ca n c l d ka e) 32))
    have hR5 := rb_new w4 (sum4 na ca n c l d ka e) 32
    clear HGs HGt HEs HEt HGD HA WT TU
    go_wp2_with (fail)
    have hneq : w4.heap.size ≠ w.heap.size + 1 := by have := HF4.size; omega
    generalize w4.alloc (.cells (sum4 na ca n c l d ka e) 32) = w5 at HF5 hR5 ⊢
    obtain ⟨m0, m1, m2, m3⟩ := cells4 hR5
    obtain ⟨r0, s0⟩ := txcell HF5.res 0 _ rfl
    obtain ⟨r1, s1⟩ := txcell HF5.res 1 _ rfl
    obtain ⟨r2, s2⟩ := txcell HF5.res 2 _ rfl
    obtain ⟨r3, s3⟩ := txcell HF5.res 3 _ rfl
    obtain ⟨r4, s4⟩ := txcell HF5.res 4 _ rfl
    have hR9 := (rb_five HF5.res rfl (.int .i64 0) (.slice none 0 0) (.slice none 0 0) (.int .i64 0) (.int .i64 0)).keep (Below.refl _ _).drew
    have hB9 := mkHid (bel_st5n (B := w.heap.size + 1) HF5.bel (by omega) (.int .i64 0) (.slice none 0 0) (.slice none 0 0) (.int .i64 0) (.int .i64 0))
    replace hB9 := mkHid hB9.out.drew
    go_wp2_with (fail)
    have hRq := ((((hR5.other hneq 0 (.int .i64 0)).other hneq 1 (.slice none 0 0)).other hneq 2 (.slice none 0 0)).other hneq 3 (.int .i64 0)).other hneq 4 (.int .i64 0)
    have mq := (cells4 (hRq.keep (Below.refl _ _).drew)).2.2.2
    go_region
    go_wp2_with (fail)
    obtain ⟨k0, -⟩ := txcell hR9 0 _ rfl
    obtain ⟨k1, -⟩ := txcell hR9 1 _ rfl
    obtain ⟨k2, -⟩ := txcell hR9 2 _ rfl
    obtain ⟨k3, -⟩ := txcell hR9 3 _ rfl
    obtain ⟨k4, -⟩ := txcell hR9 4 _ rfl
    exact bodyPost_ret (v := .tuple #[.agg zN, .int .i64 (e : Nat)]) (by simp [results, Tryz.results11, go_sem, k0, k1, k2, k3, k4]) rfl ⟨_, rfl, by rw [HP.out]; rfl, hB9.out⟩
  | ok a =>
    rw [hls] at hL
    have gA := HGs.out a hls
    obtain ⟨na, ca, n, c, l, d, rfl, hN, hZ, hK, hC⟩ := hL
    have hln : n = l := by have := gA.len; rw [hN.eqlen, hZ.eqlen] at this; exact this.symm
    subst hln
    have hB5 := bal w4 (.cells (sum4 na ca n c n d a.k 0) 32)
    have HF5 := HF4.keep hB5
    have hR5 := rb_new w4 (sum4 na ca n c n d a.k 0) 32
    have hW5 : Below W.heap.size W (w4.alloc (.cells (sum4 na ca n c n d a.k 0) 32)) := hW.trans (HF5.bel.mono hW.size)
    obtain ⟨p0, p1, p2, p3⟩ := TU.out _ hW5
    obtain ⟨b0, b1, b2, b3, b4⟩ := form5 HF5.box
    obtain ⟨p0', p1', p2', p3'⟩ := TU.out w4 (hW.trans (HF4.bel.mono hW.size))
    obtain ⟨b0', b1', b2', b3', b4'⟩ := form5 HF4.box
    have WT5 := mkHid (WT.out _ hW5)
    have hN5 := hN.below (Nat.le_refl _) hB5
    have hZ5 := hZ.below (Nat.le_refl _) hB5
    have hnn : n ≤ 500 := by have := gA.few; rw [hN.eqlen] at this; exact this
    have fA := mkHid gA.fit
    have HLs := mkHid hls
    have hs4 := HF4.size
    have hp6 : w4.heap.size < (w4.alloc (.cells (sum4 na ca n c n d a.k 0) 32)).heap.size := by simp
    clear HGs HEs WT TU hN hZ hK hC hls gA
    go_wp2_with (fail)
    generalize w4.heap.size = p6 at hR5 hs4 hp6 ⊢
    generalize w4.alloc (.cells (sum4 na ca n c n d a.k 0) 32) = w5 at hB5 HF5 hR5 hW5 WT5 hN5 hZ5 hp6 p0 p1 p2 p3 b0 b1 b2 b3 b4 ⊢
    clear hB5 hB4 HF4 p0 p1 p2 p3 b0 b1 b2 b3 b4 p0' p1' p2' p3' b0' b1' b2' b3' b4'
    refine WT5.out.mono ?_
    rintro e w6 ⟨v6, rfl, hL6, hB6⟩
    have HF6 := HF5.keep hB6
    have hR6 := hR5.keep hB6
    clear WT5
    cases hlt : lin t with
    | er e =>
      rw [hlt] at hL6
      have he := HEt.out e hlt
      obtain ⟨nb, cb, n', c', l', d', kb, rfl, -⟩ := hL6
      have hx : ((e : Int) != 0) = true := by rw [bne_iff_ne]; omega
      have HP : Hid (atm (.mk 11 x m [s, t] []) = .er e) := by show _ = _; rw [HA.out]; unfold dfS; rw [HLs.out, hlt]
      have HF7 := HF6.keep (bal w6 (.cells (sum4 nb cb n' c' l' d' kb e) 32))
      have hR7 := rb_new w6 (sum4 nb cb n' c' l' d' kb e) 32
      have hneq : w6.heap.size ≠ w.heap.size + 1 := by have := HF6.size; omega
      clear HGt HEt HGD HA HLs hN5 hZ5 fA hR5 hR6
      go_wp2_with (fail)
      generalize w6.alloc (.cells (sum4 nb cb n' c' l' d' kb e) 32) = w7 at HF7 hR7 ⊢
      obtain ⟨m0, m1, m2, m3⟩ := cells4 hR7
      obtain ⟨r0, s0⟩ := txcell HF7.res 0 _ rfl
      obtain ⟨r1, s1⟩ := txcell HF7.res 1 _ rfl
      obtain ⟨r2, s2⟩ := txcell HF7.res 2 _ rfl
      obtain ⟨r3, s3⟩ := txcell HF7.res 3 _ rfl
      obtain ⟨r4, s4⟩ := txcell HF7.res 4 _ rfl
      have hR9 := (rb_five HF7.res rfl (.int .i64 0) (.slice none 0 0) (.slice none 0 0) (.int .i64 0) (.int .i64 0)).keep (Below.refl _ _).drew
      have hB9 := mkHid (bel_st5n (B := w.heap.size + 1) HF7.bel (by omega) (.int .i64 0) (.slice none 0 0) (.slice none 0 0) (.int .i64 0) (.int .i64 0))
      replace hB9 := mkHid hB9.out.drew
      go_wp2_with (fail)
      have hRq := ((((hR7.other hneq 0 (.int .i64 0)).other hneq 1 (.slice none 0 0)).other hneq 2 (.slice none 0 0)).other hneq 3 (.int .i64 0)).other hneq 4 (.int .i64 0)
      have mq := (cells4 (hRq.keep (Below.refl _ _).drew)).2.2.2
      go_region
      go_wp2_with (fail)
      obtain ⟨k0, -⟩ := txcell hR9 0 _ rfl
      obtain ⟨k1, -⟩ := txcell hR9 1 _ rfl
      obtain ⟨k2, -⟩ := txcell hR9 2 _ rfl
      obtain ⟨k3, -⟩ := txcell hR9 3 _ rfl
      obtain ⟨k4, -⟩ := txcell hR9 4 _ rfl
      exact bodyPost_ret (v := .tuple #[.agg zN, .int .i64 (e : Nat)]) (by simp [results, Tryz.results11, go_sem, k0, k1, k2, k3, k4]) rfl ⟨_, rfl, by rw [HP.out]; rfl, hB9.out⟩
    | ok b =>
      rw [hlt] at hL6
      have gB := HGt.out b hlt
      obtain ⟨nb, cb, n', c', l', d', rfl, hM, hY, -, -⟩ := hL6
      have hln' : n' = l' := by have := gB.len; rw [hM.eqlen, hY.eqlen] at this; exact this.symm
      subst hln'
      have hB7 := bal w6 (.cells (sum4 nb cb n' c' n' d' b.k 0) 32)
      have HF7 := HF6.keep hB7
      have hR7 := rb_new w6 (sum4 nb cb n' c' n' d' b.k 0) 32
      have hR67 := hR6.keep hB7
      have hN7 := hN5.below (Nat.le_refl _) (bt2 hB6 hB7)
      have hZ7 := hZ5.below (Nat.le_refl _) (bt2 hB6 hB7)
      have hM7 := hM.below (Nat.le_refl _) hB7
      have hY7 := hY.below (Nat.le_refl _) hB7
      have hnn' : n' ≤ 500 := by have := gB.few; rw [hM.eqlen] at this; exact this
      have hs6 := hB6.size
      have hp7 : w6.heap.size < (w6.alloc (.cells (sum4 nb cb n' c' n' d' b.k 0) 32)).heap.size := by simp
      have HD : Hid (dfS 11 s t = mkS (difS 11 a b)) := by show _ = _; unfold dfS; rw [HLs.out, hlt]
      have fB := mkHid gB.fit
      obtain ⟨a0, a1, a2, a3⟩ := cells4 hR67
      obtain ⟨b0, b1, b2, b3⟩ := cells4 hR7
      clear HGt HEt HLs hN5 hZ5 hM hY hR5 hR6 gB hlt
      go_wp2_with (fail)
      have hp67 : p6 < w6.heap.size := by omega
      generalize w6.heap.size = p7 at hR7 hp7 hp67 b0 b1 b2 b3 ⊢
      generalize w6.alloc (.cells (sum4 nb cb n' c' n' d' b.k 0) 32) = w7 at HF7 hR7 hR67 hN7 hZ7 hM7 hY7 hp7 a0 a1 a2 a3 b0 b1 b2 b3 hB7 ⊢
      have P1 := mkHid (rplus_at a b na ca nb cb n c n d n' c' n' d' true w7 hN7 hZ7 hM7 hY7 (by omega) (by omega) fA.out fB.out rfl rfl)
      clear hB6 hB7 HF5 HF6 hW5 a0 a1 a2 a3 b0 b1 b2 b3
      refine P1.out.mono ?_
      rintro e w8 ⟨v8, rfl, hS8, hB8⟩
      obtain ⟨n8, c8, l8, g8, m8, d8, k8, e8, rfl⟩ := hS8.sum.shape
      have HF8 := HF7.keep (bt2 hB8 (bal w8 (.cells (sum4 n8 c8 l8 g8 m8 d8 k8 e8) 32)))
      have hR68 := hR67.keep (bt2 hB8 (bal w8 (.cells (sum4 n8 c8 l8 g8 m8 d8 k8 e8) 32)))
      have hR78 := hR7.keep (bt2 hB8 (bal w8 (.cells (sum4 n8 c8 l8 g8 m8 d8 k8 e8) 32)))
      have hR8 := rb_new w8 (sum4 n8 c8 l8 g8 m8 d8 k8 e8) 32
      clear P1
      have HBD := mkHid (bd_of (w := w) (m := m) HA.out HD.out)
      have HDG : Hid (∀ D, mkS (difS 11 a b) = .ok D → D.good nmB 1000) := fun D h => HGD.out D (HD.out.trans h)
      have hs8 := HF8.size
      have hB78 := bt2 hB8 (bal w8 (.cells (sum4 n8 c8 l8 g8 m8 d8 k8 e8) 32))
      have hS9 := (hS8.below (bal w8 (.cells (sum4 n8 c8 l8 g8 m8 d8 k8 e8) 32))).base (B' := w.heap.size) (by have := HF7.size; omega)
      have hp8 : w8.heap.size < (w8.alloc (.cells (sum4 n8 c8 l8 g8 m8 d8 k8 e8) 32)).heap.size := by simp
      have hq8 : w.heap.size + 1 < w8.heap.size := by have := HF7.size; have := hB8.size; omega
      have hp78 : p7 < w8.heap.size := Nat.lt_of_lt_of_le hp7 hB8.size
      have hN9 := hN7.below (Nat.le_refl _) hB78
      have hZ9 := hZ7.below (Nat.le_refl _) hB78
      have hM9 := hM7.below (Nat.le_refl _) hB78
      have hY9 := hY7.below (Nat.le_refl _) hB78
      obtain ⟨s0, s1, s2, s3⟩ := cells4 hR8
      obtain ⟨a0, a1, a2, a3⟩ := cells4 hR68
      obtain ⟨b0, b1, b2, b3⟩ := cells4 hR78
      clear HGD HA HD hS8 hB8 hB78 hN7 hZ7 hM7 hY7 hR7 hR67
      go_wp2_with (fail)
      generalize w8.heap.size = p8 at hR8 hp8 hq8 hp78 s0 s1 s2 s3 ⊢
      generalize w8.alloc (.cells (sum4 n8 c8 l8 g8 m8 d8 k8 e8) 32) = w9 at HF8 hR68 hR78 hR8 hS9 hp8 hN9 hZ9 hM9 hY9 s0 s1 s2 s3 a0 a1 a2 a3 b0 b1 b2 b3 hs8 ⊢
      have P2 := mkHid (rplus_at b a nb cb na ca n' c' n' d' n c n d true w9 hM9 hY9 hN9 hZ9 (by omega) (by omega) fB.out fA.out rfl rfl)
      have hlow := HF8.size
      clear s0 s1 s2 s3 a0 a1 a2 a3 b0 b1 b2 b3 hN9 hZ9 hM9 hY9 hS9 fA fB
      refine P2.out.mono ?_
      rintro e w10 ⟨v10, rfl, hS10, hB10⟩
      obtain ⟨n9, c9, l9, g9, m9, dd9, k9, e9, rfl⟩ := hS10.sum.shape
      have HF10 := HF8.keep hB10
      have hR10 := hR8.keep hB10
      obtain ⟨⟨z0, y0⟩, ⟨z1, y1⟩, ⟨z2, y2⟩, ⟨z3, y3⟩⟩ := cellsF hR10
      have hX := bux_st4 (w := w10) (p := p8) (.slice n9 l9 g9) (.slice c9 m9 dd9) (.int .i64 k9) (.int .i64 e9)
      have HFS := HF10.bux hX hq8
      have hRS := rb_four hR10 rfl (.slice n9 l9 g9) (.slice c9 m9 dd9) (.int .i64 k9) (.int .i64 e9)
      have hDS : DSumO w.heap.size _ (mkS (difS 11 a b)) (.agg (sum4 n9 c9 l9 g9 m9 dd9 k9 e9)) := (hS10.base (B' := w.heap.size) (by omega)).bux hR10 hX
      have hpS : p8 < ((((w10.setCell ⟨p8, 0, none⟩ (.slice n9 l9 g9)).setCell ⟨p8, 1, none⟩ (.slice c9 m9 dd9)).setCell ⟨p8, 2, none⟩ (.int .i64 k9)).setCell ⟨p8, 3, none⟩ (.int .i64 e9)).heap.size := (Array.getElem?_eq_some_iff.1 hRS).1
      obtain ⟨s0, s1, s2, s3⟩ := cells4 hRS
      clear P2 hS10 hX hR10 HF10 HF8 hR68 hR78 hR8 hB10
      have hkI : I64 k9 := by
        cases hd : mkS (difS 11 a b) with
        | er e => rw [hd] at hDS; obtain ⟨_, _, _, _, _, _, _, h1, _, h2⟩ := hDS; simp only [Value.agg.injEq] at h1; cases h1; exact h2
        | ok D => rw [hd] at hDS; obtain ⟨_, _, _, _, _, _, h1, _⟩ := hDS; simp only [Value.agg.injEq] at h1; cases h1; exact Sm.fits.k (HDG.out D hd).fit
      have SB : Hid (∀ y : World, Calls Tryz.prog 26 #[.int .i64 0, .int .i64 k9] y fun e w' => e = .returned (.tuple #[.int .i64 (Wd.nOf (-k9)), .int .i64 (Wd.eOf (-k9))]) ∧ Below y.heap.size y w') := fun y => rsub0 k9 y hkI
      go_wp2_with (fail)
      generalize ((((w10.setCell ⟨p8, 0, none⟩ (.slice n9 l9 g9)).setCell ⟨p8, 1, none⟩ (.slice c9 m9 dd9)).setCell ⟨p8, 2, none⟩ (.int .i64 k9)).setCell ⟨p8, 3, none⟩ (.int .i64 e9)) = wS at hDS HFS hRS hpS s0 s1 s2 s3 ⊢
      clear s0 s1 s2 s3
      refine (SB.out wS).mono ?_
      rintro e w11 ⟨rfl, hB11⟩
      have HF11 := HFS.keep hB11
      have hR11 := hRS.keep hB11
      have hD11 := hDS.below hB11
      clear HFS hRS hDS hB11 SB hpS
      go_wp2_with (fail)
      refine (note_any p8 (Wd.nOf (-k9)) (Wd.eOf (-k9)) n9 c9 l9 g9 m9 dd9 k9 e9 w11 hR11).mono ?_
      rintro en w12 ⟨rfl, hR12, hX12⟩
      have HF12 := HF11.bux hX12 hq8
      have hD12 := hD11.bux hR11 hX12
      clear HF11 hD11 hR11 hX12
      have hneq : p8 ≠ w.heap.size + 1 := by omega
      -- how it came out
      have OUT : ((if Wd.eOf (-k9) = 0 then e9 else 91) = 91 ∧ atm (.mk 11 x m [s, t] []) = .er 91) ∨ ∃ D, mkS (difS 11 a b) = .ok D ∧ (if Wd.eOf (-k9) = 0 then e9 else 91) = 0 ∧ (Wd.nOf (-k9)) = bdOf 11 D.k ∧ in64 (-D.k) = true ∧ in64 (bdOf 11 D.k) = true := by
        cases hd : mkS (difS 11 a b) with
        | er e0 =>
          rw [hd] at hD12
          obtain ⟨_, _, _, _, _, _, _, h1, h2, _⟩ := hD12
          simp only [Value.agg.injEq] at h1
          cases h1
          have he0 := mkS_er hd
          subst he0
          left
          exact ⟨by simp, HBD.out.no _ hd⟩
        | ok D =>
          rw [hd] at hD12
          obtain ⟨_, _, _, _, _, _, h1, _⟩ := hD12
          simp only [Value.agg.injEq] at h1
          cases h1
          cases c1 : in64 (-D.k) with
          | false =>
            left
            have h9 : ¬ Wd.eOf (-D.k) = 0 := fun h => by rw [eOf_zero.1 h] at c1; cases c1
            exact ⟨by simp [h9], HBD.out.neg D hd c1⟩
          | true =>
            have h9 : Wd.eOf (-D.k) = 0 := eOf_zero.2 c1
            have hbo : bdOf 11 D.k = -D.k := by unfold bdOf; simp
            right
            exact ⟨D, rfl, by simp [h9], by rw [nOf_in c1, hbo], c1, by rw [hbo]; exact c1⟩
      generalize (if Wd.eOf (-k9) = 0 then e9 else 91) = ee at OUT hR12
      generalize (Wd.nOf (-k9)) = bd at OUT ⊢
      rcases OUT with ⟨rfl, hP⟩ | ⟨D, hd, rfl, rfl, c1, c2⟩
      · have HP := mkHid hP
        obtain ⟨m0, m1, m2, m3⟩ := cells4 hR12
        clear HBD HDG hP
        obtain ⟨r0, s0⟩ := txcell HF12.res 0 _ rfl
        obtain ⟨r1, s1⟩ := txcell HF12.res 1 _ rfl
        obtain ⟨r2, s2⟩ := txcell HF12.res 2 _ rfl
        obtain ⟨r3, s3⟩ := txcell HF12.res 3 _ rfl
        obtain ⟨r4, s4⟩ := txcell HF12.res 4 _ rfl
        have hR9 := (rb_five HF12.res rfl (.int .i64 0) (.slice none 0 0) (.slice none 0 0) (.int .i64 0) (.int .i64 0)).keep (Below.refl _ _).drew
        have hB9 := mkHid (bel_st5n (B := w.heap.size + 1) HF12.bel (by omega) (.int .i64 0) (.slice none 0 0) (.slice none 0 0) (.int .i64 0) (.int .i64 0))
        replace hB9 := mkHid hB9.out.drew
        go_wp2_with (fail)
        have hRq := ((((hR12.other hneq 0 (.int .i64 0)).other hneq 1 (.slice none 0 0)).other hneq 2 (.slice none 0 0)).other hneq 3 (.int .i64 0)).other hneq 4 (.int .i64 0)
        have mq := (cells4 (hRq.keep (Below.refl _ _).drew)).2.2.2
        go_region
        go_wp2_with (fail)
        obtain ⟨k0, -⟩ := txcell hR9 0 _ rfl
        obtain ⟨k1, -⟩ := txcell hR9 1 _ rfl
        obtain ⟨k2, -⟩ := txcell hR9 2 _ rfl
        obtain ⟨k3, -⟩ := txcell hR9 3 _ rfl
        obtain ⟨k4, -⟩ := txcell hR9 4 _ rfl
        exact bodyPost_ret (v := .tuple #[.agg zN, .int .i64 91]) (by simp [results, Tryz.results11, go_sem, k0, k1, k2, k3, k4]) rfl ⟨_, rfl, by rw [HP.out]; rfl, hB9.out⟩
      · have gD := HDG.out D hd
        have HBT := mkHid (HBD.out.loose D hd c1 c2)
        have HBG := mkHid (HBD.out.good D hd c1 c2)
        have hbI : I64 (bdOf 11 D.k) := (in64_iff _).1 c2
        have hbx : ∃ bd, bdOf 11 D.k = bd := ⟨_, rfl⟩
        rw [hd] at hD12
        obtain ⟨n1, c1', l1, g1, m1', d1', hv1, hN1, hK1, hO1⟩ := hD12
        simp only [Value.agg.injEq] at hv1
        cases hv1
        obtain ⟨m0, m1, m2, m3⟩ := cells4 hR12
        obtain ⟨b0, b1, b2, b3, b4⟩ := form5 HF12.box
        have hZ1 := rdz_of_own2 hO1
        have hlen : D.cs.length = D.ns.length := gD.len
        have hnl : l9 = D.ns.length := hN1.eqlen.symm
        have hml : m9 = D.cs.length := hZ1.eqlen.symm
        have hfew := gD.few
        have hmm : m9 ≤ 1000 := by omega
        have hcl : D.cs.length ≤ 1000 := by omega
        have hIz : ∀ z ∈ D.cs, I64 z := fun z hz => Sm.fits.c gD.fit z hz
        clear HBD HDG c1 c2 hd hkI hbx hnl hml hlen
        have hb2 := mkHid hbI
        generalize hbe : bdOf 11 D.k = bd at hb2 hbI ⊢
        have hT : Hid (∀ a4 c4 (w4 : World), RdZ w4 a4 (1 + m9) c4 (bd :: D.cs) → ∃ xx er : Int, ((er = 0 ∧ tight (nrOf 11 m D)) ∨ (er ≠ 0 ∧ ¬ tight (nrOf 11 m D))) ∧ Calls Tryz.prog 29 #[.slice a4 (1 + m9) c4] w4 fun e w' => e = .returned (.tuple #[.int .i64 xx, .int .i64 er]) ∧ Below w4.heap.size w4 w') := by
          intro a4 c4 w4 hR4
          have hrow := row_of_rdz hR4 (by
            intro z hz
            rcases List.mem_cons.1 hz with rfl | hz
            · exact hb2.out
            · exact hIz z hz) (by unfold maxLen; omega)
          refine ⟨_, _, ?_, Chk.ref_total _ _ w4 hrow (by rw [List.length_cons]; omega)⟩
          have e : Chk.tot (bd :: D.cs) = bd.natAbs + Chk.tot D.cs := rfl
          have e2 : nrOf 11 m D = ⟨kdOf 11, D.ns, D.cs, bd, m⟩ := by rw [← hbe]; unfold nrOf; rw [if_neg (by decide)]
          rw [e2]
          unfold tight tot Chk.errT
          rw [e]
          by_cases ht : bd.natAbs + Chk.tot D.cs ≤ 9223372036854775807
          · left; exact ⟨if_pos ht, by show Chk.tot D.cs + bd.natAbs ≤ _; omega⟩
          · right; rw [if_neg ht]; exact ⟨by decide, by show ¬ (Chk.tot D.cs + bd.natAbs ≤ _); omega⟩
        have HNR : Hid (nrOf 11 m D = ⟨0, D.ns, D.cs, bd, m⟩) := by
          show _ = _
          rw [← hbe]; unfold nrOf; rw [if_neg (by decide)]; rfl
        have hSh : Short D.ns := fun y hy => by have := name_small ((nmB_iff y).1 (gD.nms y hy)); omega
        have q1 : (w12.alloc (.cells #[.int .i64 bd] 2)).cell? ⟨p8, 1, none⟩ = some (.slice c9 m9 dd9) := (cells4 (hR12.keep (bal w12 _))).2.1
        clear hbe gD
        go_wp2_with (at_builtin; refine wp_oneQ w12 rfl (.tmp 126) (.tmp 128) rfl bd rfl c9 m9 dd9 D.cs (by go_simp) hZ1 (by omega) ?_; intro a4 c4' w13 hR4 hB13)
        obtain ⟨xx, er, hE, hC⟩ := hT.out a4 c4' w13 hR4
        refine hC.mono ?_
        rintro e w14 ⟨rfl, hB14⟩
        have hB24 := bt2 hB13 hB14
        have HF14 := HF12.keep hB24
        have hR14 := hR12.keep hB24
        have hN14 := hN1.below (Nat.le_refl _) hB24
        have hZ14 := hZ1.below (Nat.le_refl _) hB24
        have hK14 := hK1.below hB24
        have hC14 := (bk_of_owns hO1).below hB24
        clear m0 m1 m2 m3 b0 b1 b2 b3 b4 q1 hT hR4 hC HF12 hR12 hN1 hZ1 hK1 hO1 hB13 hB14 hB24
        rcases hE with ⟨rfl, ht⟩ | ⟨hne, ht⟩
        · have HP := mkHid (HBG.out ht)
          obtain ⟨m0, m1, m2, m3⟩ := cells4 hR14
          obtain ⟨b0, b1, b2, b3, b4⟩ := form5 HF14.box
          obtain ⟨r0, s0⟩ := txcell HF14.res 0 _ rfl
          obtain ⟨r1, s1⟩ := txcell HF14.res 1 _ rfl
          obtain ⟨r2, s2⟩ := txcell HF14.res 2 _ rfl
          obtain ⟨r3, s3⟩ := txcell HF14.res 3 _ rfl
          obtain ⟨r4, s4⟩ := txcell HF14.res 4 _ rfl
          have hR9 := rb_five HF14.res rfl (.int .i64 0) (.slice n9 l9 g9) (.slice c9 m9 dd9) (.int .i64 bd) (.int .i64 m)
          have hB9 := mkHid (bel_st5n (B := w.heap.size + 1) HF14.bel (by omega) (.int .i64 0) (.slice n9 l9 g9) (.slice c9 m9 dd9) (.int .i64 bd) (.int .i64 m))
          have hM9 := mkHid (NrM.five (N := ⟨0, D.ns, D.cs, bd, m⟩) ⟨hN14, hZ14, hSh, hIz, hb2.out, by unfold maxLen; omega⟩ (hK14.ne HF14.res (by decide)) (hC14.ne HF14.res (by decide)) (.int .i64 0) (.slice n9 l9 g9) (.slice c9 m9 dd9) (.int .i64 bd) (.int .i64 m))
          clear HBT HBG ht hN14 hZ14 hK14 hC14
          go_wp2_with (fail)
          obtain ⟨k0, -⟩ := txcell hR9 0 _ rfl
          obtain ⟨k1, -⟩ := txcell hR9 1 _ rfl
          obtain ⟨k2, -⟩ := txcell hR9 2 _ rfl
          obtain ⟨k3, -⟩ := txcell hR9 3 _ rfl
          obtain ⟨k4, -⟩ := txcell hR9 4 _ rfl
          refine bodyPost_ret (v := .tuple #[nrV 0 bd m n9 c9 l9 g9 m9 dd9, .int .i64 0]) (by simp [results, Tryz.results11, go_sem, k0, k1, k2, k3, k4]) rfl ⟨_, rfl, ?_, hB9.out⟩
          rw [HP.out, HNR.out]
          exact ⟨_, _, _, _, _, _, rfl, hM9.out⟩
        · have HP := mkHid (HBT.out ht)
          have hx : (er != 0) = true := by rw [bne_iff_ne]; exact hne
          clear HBT HBG ht hne hN14 hZ14 hK14 hC14
          obtain ⟨r0, s0⟩ := txcell HF14.res 0 _ rfl
          obtain ⟨r1, s1⟩ := txcell HF14.res 1 _ rfl
          obtain ⟨r2, s2⟩ := txcell HF14.res 2 _ rfl
          obtain ⟨r3, s3⟩ := txcell HF14.res 3 _ rfl
          obtain ⟨r4, s4⟩ := txcell HF14.res 4 _ rfl
          have hR9 := rb_five HF14.res rfl (.int .i64 0) (.slice none 0 0) (.slice none 0 0) (.int .i64 0) (.int .i64 0)
          have hB9 := mkHid (bel_st5n (B := w.heap.size + 1) HF14.bel (by omega) (.int .i64 0) (.slice none 0 0) (.slice none 0 0) (.int .i64 0) (.int .i64 0))
          go_wp2_with (fail)
          obtain ⟨k0, -⟩ := txcell hR9 0 _ rfl
          obtain ⟨k1, -⟩ := txcell hR9 1 _ rfl
          obtain ⟨k2, -⟩ := txcell hR9 2 _ rfl
          obtain ⟨k3, -⟩ := txcell hR9 3 _ rfl
          obtain ⟨k4, -⟩ := txcell hR9 4 _ rfl
          exact bodyPost_ret (v := .tuple #[.agg zN, .int .i64 91]) (by simp [results, Tryz.results11, go_sem, k0, k1, k2, k3, k4]) rfl ⟨_, rfl, by rw [HP.out]; rfl, hB9.out⟩end Go.Proofs.YtiapkblebbcfbaaGreat.Gl
/- The document's Atom: operation 12. -/
namespace Go.Proofs.YtiapkblebbcfbaaGreat.Gl
open Go Go.RowKit
set_option linter.unusedVariables false
set_option linter.unusedSimpArgs false

set_option maxRecDepth 100000 in
set_option maxHeartbeats 40000000 in
theorem ratom_12 (W : World) (m : Int) (x : ByteArray) (s t : Tm) (v : Value) (w : World) (hv : FmV W (.mk 12 x m [s, t] []) v) (hW : Below W.heap.size W w) (h0 : chk nmB (.mk 12 x m [s, t] []) = 0) (h1 : ¬ ((12 : Int) < 9)) :
    Calls Tryz.prog 11 #[v] w fun e w' => ∃ v', e = .returned v' ∧ RAr w' (atm (.mk 12 x m [s, t] [])) v' ∧ Below w.heap.size w w' := by
  have hwell := fm_right h0
  have hfa := fm_atom hwell.1 h1
  have hs := hwell.2.1 s (List.mem_cons_self ..)
  have ht := hwell.2.1 t (List.mem_cons_of_mem _ (List.mem_cons_self ..))
  have hsz : s.size + t.size ≤ 499 := by have := hwell.2.2; simp only [Tm.sizeL, Fm.sizeL] at this; omega
  have HA : Hid (atm (.mk 12 x m [s, t] []) = match dfS 12 s t with | .er e => .er e | .ok D => finS 12 m D) := (atm_at h0 h1).trans (atmS_eq 12 m s t)
  have HMD := mkHid hfa.2.2
  have CK : Hid (∀ w', Below w.heap.size w w' → Calls Tryz.prog 24 #[v] w' fun e w'' => e = .returned (.int .i64 0) ∧ Below w'.heap.size w' w'') := fun w' h => by
    have := rcheck_at W _ v w' hv (hW.trans (h.mono hW.size))
    rw [h0] at this
    exact this
  obtain ⟨c0, c1, c2, c3, c4, rfl, hr⟩ := hv
  rw [RdF] at hr
  obtain ⟨rfl, rfl, rfl, ⟨hio, him, -⟩, ⟨ao, cap, rfl, hcap, hcm, hk⟩, -⟩ := hr
  obtain ⟨g, of, d0, d1, d2, d3, f0, f1, f2, f3, rfl, q0, q1, q2, q3, hrt, t0, t1, t2, t3, hru, hg⟩ := two_kids hk
  have hcap' : 2 ≤ cap := hcap
  have WS : Hid (∀ y, Below W.heap.size W y → Calls Tryz.prog 17 #[.agg #[d0, d1, d2, d3]] y fun e w' => ∃ v', e = .returned v' ∧ DSum w' (lin s) v' ∧ Below y.heap.size y w') := fun y hy => work_at s hs W (.agg #[d0, d1, d2, d3]) y ⟨_, _, _, _, rfl, hrt⟩ hy (by omega)
  have WT : Hid (∀ y, Below W.heap.size W y → Calls Tryz.prog 17 #[.agg #[f0, f1, f2, f3]] y fun e w' => ∃ v', e = .returned v' ∧ DSum w' (lin t) v' ∧ Below y.heap.size y w') := fun y hy => work_at t ht W (.agg #[f0, f1, f2, f3]) y ⟨_, _, _, _, rfl, hru⟩ hy (by omega)
  have TS : Hid (∀ y : World, Below W.heap.size W y → y.cell? ⟨g, of, none⟩ = some d0 ∧ y.cell? ⟨g, of + 1, none⟩ = some d1 ∧ y.cell? ⟨g, of + 2, none⟩ = some d2 ∧ y.cell? ⟨g, of + 3, none⟩ = some d3) := fun y hy => ⟨(hy.cell (p := ⟨g, of, none⟩) hg).trans q0, (hy.cell (p := ⟨g, of + 1, none⟩) hg).trans q1, (hy.cell (p := ⟨g, of + 2, none⟩) hg).trans q2, (hy.cell (p := ⟨g, of + 3, none⟩) hg).trans q3⟩
  have TU : Hid (∀ y : World, Below W.heap.size W y → y.cell? ⟨g, of + 4, none⟩ = some f0 ∧ y.cell? ⟨g, of + 5, none⟩ = some f1 ∧ y.cell? ⟨g, of + 6, none⟩ = some f2 ∧ y.cell? ⟨g, of + 7, none⟩ = some f3) := fun y hy => ⟨(hy.cell (p := ⟨g, of + 4, none⟩) hg).trans t0, (hy.cell (p := ⟨g, of + 5, none⟩) hg).trans t1, (hy.cell (p := ⟨g, of + 6, none⟩) hg).trans t2, (hy.cell (p := ⟨g, of + 7, none⟩) hg).trans t3⟩
  have HGs : Hid (∀ p, lin s = .ok p → p.good nmB 500) := fun p hp => (lin_good nmB s hs p hp).mono (by omega)
  have HGt : Hid (∀ p, lin t = .ok p → p.good nmB 500) := fun p hp => (lin_good nmB t ht p hp).mono (by omega)
  have HEs : Hid (∀ e, lin s = .er e → e = 90 ∨ e = 91) := lin_er nmB s hs
  have HEt : Hid (∀ e, lin t = .er e → e = 90 ∨ e = 91) := lin_er nmB t ht
  have HGD : Hid (∀ D, dfS 12 s t = .ok D → D.good nmB 1000) := fun D hD => dfS_good hs ht hsz hD
  have HF := frF_new w (.int .i64 12) (.string x) (.int .i64 m) (.slice (some ⟨g, of, none⟩) 2 cap) c4 zN 44
  clear h0 hwell hfa hs ht q0 q1 q2 q3 t0 t1 t2 t3 hrt hru hk
  go_enter Tryz.func11, Tryz.ntmps11
  go_wp2_with (fail)
  generalize (w.alloc (.cells #[.int .i64 12, .string x, .int .i64 m, .slice (some ⟨g, of, none⟩) 2 cap, c4] 41)).alloc (.cells zN 44) = w2 at HF ⊢
  refine (CK.out w2 HF.bel).mono ?_
  rintro e w3 ⟨rfl, hB3⟩
  have HF3 := HF.keep hB3
  obtain ⟨b0, b1, b2, b3, b4⟩ := form5 HF3.box
  have hW3 : Below W.heap.size W w3 := hW.trans (HF3.bel.mono hW.size)
  obtain ⟨p0, p1, p2, p3⟩ := TS.out w3 hW3
  have WS3 := mkHid (WS.out w3 hW3)
  clear CK HF WS TS
  go_wp2_with (fail)
  refine WS3.out.mono ?_
  rintro e w4 ⟨v4, rfl, hL, hB4⟩
  have HF4 := HF3.keep hB4
  clear WS3 b0 b1 b2 b3 b4 p0 p1 p2 p3
  cases hls : lin s with
  | er e =>
    rw [hls] at hL
    have he := HEs.out e hls
    obtain ⟨na, ca, n, c, l, d, ka, rfl, -⟩ := hL
    have hx : ((e : Int) != 0) = true := by rw [bne_iff_ne]; omega
    have HP : Hid (atm (.mk 12 x m [s, t] []) = .er e) := by show _ = _; rw [HA.out]; unfold dfS; rw [hls]
    have HF5 := HF4.keep (bal w4 (.cells (sum4 na ca n c l d ka e) 32))
    have hR5 := rb_new w4 (sum4 na ca n c l d ka e) 32
    clear HGs HGt HEs HEt HGD HA WT TU
    go_wp2_with (fail)
    have hneq : w4.heap.size ≠ w.heap.size + 1 := by have := HF4.size; omega
    generalize w4.alloc (.cells (sum4 na ca n c l d ka e) 32) = w5 at HF5 hR5 ⊢
    obtain ⟨m0, m1, m2, m3⟩ := cells4 hR5
    obtain ⟨r0, s0⟩ := txcell HF5.res 0 _ rfl
    obtain ⟨r1, s1⟩ := txcell HF5.res 1 _ rfl
    obtain ⟨r2, s2⟩ := txcell HF5.res 2 _ rfl
    obtain ⟨r3, s3⟩ := txcell HF5.res 3 _ rfl
    obtain ⟨r4, s4⟩ := txcell HF5.res 4 _ rfl
    have hR9 := (rb_five HF5.res rfl (.int .i64 0) (.slice none 0 0) (.slice none 0 0) (.int .i64 0) (.int .i64 0)).keep (Below.refl _ _).drew
    have hB9 := mkHid (bel_st5n (B := w.heap.size + 1) HF5.bel (by omega) (.int .i64 0) (.slice none 0 0) (.slice none 0 0) (.int .i64 0) (.int .i64 0))
    replace hB9 := mkHid hB9.out.drew
    go_wp2_with (fail)
    have hRq := ((((hR5.other hneq 0 (.int .i64 0)).other hneq 1 (.slice none 0 0)).other hneq 2 (.slice none 0 0)).other hneq 3 (.int .i64 0)).other hneq 4 (.int .i64 0)
    have mq := (cells4 (hRq.keep (Below.refl _ _).drew)).2.2.2
    go_region
    go_wp2_with (fail)
    obtain ⟨k0, -⟩ := txcell hR9 0 _ rfl
    obtain ⟨k1, -⟩ := txcell hR9 1 _ rfl
    obtain ⟨k2, -⟩ := txcell hR9 2 _ rfl
    obtain ⟨k3, -⟩ := txcell hR9 3 _ rfl
    obtain ⟨k4, -⟩ := txcell hR9 4 _ rfl
    exact bodyPost_ret (v := .tuple #[.agg zN, .int .i64 (e : Nat)]) (by simp [results, Tryz.results11, go_sem, k0, k1, k2, k3, k4]) rfl ⟨_, rfl, by rw [HP.out]; rfl, hB9.out⟩
  | ok a =>
    rw [hls] at hL
    have gA := HGs.out a hls
    obtain ⟨na, ca, n, c, l, d, rfl, hN, hZ, hK, hC⟩ := hL
    have hln : n = l := by have := gA.len; rw [hN.eqlen, hZ.eqlen] at this; exact this.symm
    subst hln
    have hB5 := bal w4 (.cells (sum4 na ca n c n d a.k 0) 32)
    have HF5 := HF4.keep hB5
    have hR5 := rb_new w4 (sum4 na ca n c n d a.k 0) 32
    have hW5 : Below W.heap.size W (w4.alloc (.cells (sum4 na ca n c n d a.k 0) 32)) := hW.trans (HF5.bel.mono hW.size)
    obtain ⟨p0, p1, p2, p3⟩ := TU.out _ hW5
    obtain ⟨b0, b1, b2, b3, b4⟩ := form5 HF5.box
    obtain ⟨p0', p1', p2', p3'⟩ := TU.out w4 (hW.trans (HF4.bel.mono hW.size))
    obtain ⟨b0', b1', b2', b3', b4'⟩ := form5 HF4.box
    have WT5 := mkHid (WT.out _ hW5)
    have hN5 := hN.below (Nat.le_refl _) hB5
    have hZ5 := hZ.below (Nat.le_refl _) hB5
    have hnn : n ≤ 500 := by have := gA.few; rw [hN.eqlen] at this; exact this
    have fA := mkHid gA.fit
    have HLs := mkHid hls
    have hs4 := HF4.size
    have hp6 : w4.heap.size < (w4.alloc (.cells (sum4 na ca n c n d a.k 0) 32)).heap.size := by simp
    clear HGs HEs WT TU hN hZ hK hC hls gA
    go_wp2_with (fail)
    generalize w4.heap.size = p6 at hR5 hs4 hp6 ⊢
    generalize w4.alloc (.cells (sum4 na ca n c n d a.k 0) 32) = w5 at hB5 HF5 hR5 hW5 WT5 hN5 hZ5 hp6 p0 p1 p2 p3 b0 b1 b2 b3 b4 ⊢
    clear hB5 hB4 HF4 p0 p1 p2 p3 b0 b1 b2 b3 b4 p0' p1' p2' p3' b0' b1' b2' b3' b4'
    refine WT5.out.mono ?_
    rintro e w6 ⟨v6, rfl, hL6, hB6⟩
    have HF6 := HF5.keep hB6
    have hR6 := hR5.keep hB6
    clear WT5
    cases hlt : lin t with
    | er e =>
      rw [hlt] at hL6
      have he := HEt.out e hlt
      obtain ⟨nb, cb, n', c', l', d', kb, rfl, -⟩ := hL6
      have hx : ((e : Int) != 0) = true := by rw [bne_iff_ne]; omega
      have HP : Hid (atm (.mk 12 x m [s, t] []) = .er e) := by show _ = _; rw [HA.out]; unfold dfS; rw [HLs.out, hlt]
      have HF7 := HF6.keep (bal w6 (.cells (sum4 nb cb n' c' l' d' kb e) 32))
      have hR7 := rb_new w6 (sum4 nb cb n' c' l' d' kb e) 32
      have hneq : w6.heap.size ≠ w.heap.size + 1 := by have := HF6.size; omega
      clear HGt HEt HGD HA HLs hN5 hZ5 fA hR5 hR6
      go_wp2_with (fail)
      generalize w6.alloc (.cells (sum4 nb cb n' c' l' d' kb e) 32) = w7 at HF7 hR7 ⊢
      obtain ⟨m0, m1, m2, m3⟩ := cells4 hR7
      obtain ⟨r0, s0⟩ := txcell HF7.res 0 _ rfl
      obtain ⟨r1, s1⟩ := txcell HF7.res 1 _ rfl
      obtain ⟨r2, s2⟩ := txcell HF7.res 2 _ rfl
      obtain ⟨r3, s3⟩ := txcell HF7.res 3 _ rfl
      obtain ⟨r4, s4⟩ := txcell HF7.res 4 _ rfl
      have hR9 := (rb_five HF7.res rfl (.int .i64 0) (.slice none 0 0) (.slice none 0 0) (.int .i64 0) (.int .i64 0)).keep (Below.refl _ _).drew
      have hB9 := mkHid (bel_st5n (B := w.heap.size + 1) HF7.bel (by omega) (.int .i64 0) (.slice none 0 0) (.slice none 0 0) (.int .i64 0) (.int .i64 0))
      replace hB9 := mkHid hB9.out.drew
      go_wp2_with (fail)
      have hRq := ((((hR7.other hneq 0 (.int .i64 0)).other hneq 1 (.slice none 0 0)).other hneq 2 (.slice none 0 0)).other hneq 3 (.int .i64 0)).other hneq 4 (.int .i64 0)
      have mq := (cells4 (hRq.keep (Below.refl _ _).drew)).2.2.2
      go_region
      go_wp2_with (fail)
      obtain ⟨k0, -⟩ := txcell hR9 0 _ rfl
      obtain ⟨k1, -⟩ := txcell hR9 1 _ rfl
      obtain ⟨k2, -⟩ := txcell hR9 2 _ rfl
      obtain ⟨k3, -⟩ := txcell hR9 3 _ rfl
      obtain ⟨k4, -⟩ := txcell hR9 4 _ rfl
      exact bodyPost_ret (v := .tuple #[.agg zN, .int .i64 (e : Nat)]) (by simp [results, Tryz.results11, go_sem, k0, k1, k2, k3, k4]) rfl ⟨_, rfl, by rw [HP.out]; rfl, hB9.out⟩
    | ok b =>
      rw [hlt] at hL6
      have gB := HGt.out b hlt
      obtain ⟨nb, cb, n', c', l', d', rfl, hM, hY, -, -⟩ := hL6
      have hln' : n' = l' := by have := gB.len; rw [hM.eqlen, hY.eqlen] at this; exact this.symm
      subst hln'
      have hB7 := bal w6 (.cells (sum4 nb cb n' c' n' d' b.k 0) 32)
      have HF7 := HF6.keep hB7
      have hR7 := rb_new w6 (sum4 nb cb n' c' n' d' b.k 0) 32
      have hR67 := hR6.keep hB7
      have hN7 := hN5.below (Nat.le_refl _) (bt2 hB6 hB7)
      have hZ7 := hZ5.below (Nat.le_refl _) (bt2 hB6 hB7)
      have hM7 := hM.below (Nat.le_refl _) hB7
      have hY7 := hY.below (Nat.le_refl _) hB7
      have hnn' : n' ≤ 500 := by have := gB.few; rw [hM.eqlen] at this; exact this
      have hs6 := hB6.size
      have hp7 : w6.heap.size < (w6.alloc (.cells (sum4 nb cb n' c' n' d' b.k 0) 32)).heap.size := by simp
      have HD : Hid (dfS 12 s t = mkS (difS 12 a b)) := by show _ = _; unfold dfS; rw [HLs.out, hlt]
      have fB := mkHid gB.fit
      obtain ⟨a0, a1, a2, a3⟩ := cells4 hR67
      obtain ⟨b0, b1, b2, b3⟩ := cells4 hR7
      clear HGt HEt HLs hN5 hZ5 hM hY hR5 hR6 gB hlt
      go_wp2_with (fail)
      have hp67 : p6 < w6.heap.size := by omega
      generalize w6.heap.size = p7 at hR7 hp7 hp67 b0 b1 b2 b3 ⊢
      generalize w6.alloc (.cells (sum4 nb cb n' c' n' d' b.k 0) 32) = w7 at HF7 hR7 hR67 hN7 hZ7 hM7 hY7 hp7 a0 a1 a2 a3 b0 b1 b2 b3 hB7 ⊢
      have P1 := mkHid (rplus_at a b na ca nb cb n c n d n' c' n' d' true w7 hN7 hZ7 hM7 hY7 (by omega) (by omega) fA.out fB.out rfl rfl)
      clear hB6 hB7 HF5 HF6 hW5 a0 a1 a2 a3 b0 b1 b2 b3
      refine P1.out.mono ?_
      rintro e w8 ⟨v8, rfl, hS8, hB8⟩
      obtain ⟨n8, c8, l8, g8, m8, d8, k8, e8, rfl⟩ := hS8.sum.shape
      have HF8 := HF7.keep (bt2 hB8 (bal w8 (.cells (sum4 n8 c8 l8 g8 m8 d8 k8 e8) 32)))
      have hR68 := hR67.keep (bt2 hB8 (bal w8 (.cells (sum4 n8 c8 l8 g8 m8 d8 k8 e8) 32)))
      have hR78 := hR7.keep (bt2 hB8 (bal w8 (.cells (sum4 n8 c8 l8 g8 m8 d8 k8 e8) 32)))
      have hR8 := rb_new w8 (sum4 n8 c8 l8 g8 m8 d8 k8 e8) 32
      clear P1
      have HBD := mkHid (bd_of (w := w) (m := m) HA.out HD.out)
      have HDG : Hid (∀ D, mkS (difS 12 a b) = .ok D → D.good nmB 1000) := fun D h => HGD.out D (HD.out.trans h)
      have hs8 := HF8.size
      have hB78 := bt2 hB8 (bal w8 (.cells (sum4 n8 c8 l8 g8 m8 d8 k8 e8) 32))
      have hS9 := (hS8.below (bal w8 (.cells (sum4 n8 c8 l8 g8 m8 d8 k8 e8) 32))).base (B' := w.heap.size) (by have := HF7.size; omega)
      have hp8 : w8.heap.size < (w8.alloc (.cells (sum4 n8 c8 l8 g8 m8 d8 k8 e8) 32)).heap.size := by simp
      have hq8 : w.heap.size + 1 < w8.heap.size := by have := HF7.size; have := hB8.size; omega
      have hp78 : p7 < w8.heap.size := Nat.lt_of_lt_of_le hp7 hB8.size
      have hN9 := hN7.below (Nat.le_refl _) hB78
      have hZ9 := hZ7.below (Nat.le_refl _) hB78
      have hM9 := hM7.below (Nat.le_refl _) hB78
      have hY9 := hY7.below (Nat.le_refl _) hB78
      obtain ⟨s0, s1, s2, s3⟩ := cells4 hR8
      obtain ⟨a0, a1, a2, a3⟩ := cells4 hR68
      obtain ⟨b0, b1, b2, b3⟩ := cells4 hR78
      clear HGD HA HD hS8 hB8 hB78 hN7 hZ7 hM7 hY7 hR7 hR67
      go_wp2_with (fail)
      generalize w8.heap.size = p8 at hR8 hp8 hq8 hp78 s0 s1 s2 s3 ⊢
      generalize w8.alloc (.cells (sum4 n8 c8 l8 g8 m8 d8 k8 e8) 32) = w9 at HF8 hR68 hR78 hR8 hS9 hp8 hN9 hZ9 hM9 hY9 s0 s1 s2 s3 a0 a1 a2 a3 b0 b1 b2 b3 hs8 ⊢
      have P2 := mkHid (rplus_at b a nb cb na ca n' c' n' d' n c n d true w9 hM9 hY9 hN9 hZ9 (by omega) (by omega) fB.out fA.out rfl rfl)
      have hlow := HF8.size
      clear s0 s1 s2 s3 a0 a1 a2 a3 b0 b1 b2 b3 hN9 hZ9 hM9 hY9 hS9 fA fB
      refine P2.out.mono ?_
      rintro e w10 ⟨v10, rfl, hS10, hB10⟩
      obtain ⟨n9, c9, l9, g9, m9, dd9, k9, e9, rfl⟩ := hS10.sum.shape
      have HF10 := HF8.keep hB10
      have hR10 := hR8.keep hB10
      obtain ⟨⟨z0, y0⟩, ⟨z1, y1⟩, ⟨z2, y2⟩, ⟨z3, y3⟩⟩ := cellsF hR10
      have hX := bux_st4 (w := w10) (p := p8) (.slice n9 l9 g9) (.slice c9 m9 dd9) (.int .i64 k9) (.int .i64 e9)
      have HFS := HF10.bux hX hq8
      have hRS := rb_four hR10 rfl (.slice n9 l9 g9) (.slice c9 m9 dd9) (.int .i64 k9) (.int .i64 e9)
      have hDS : DSumO w.heap.size _ (mkS (difS 12 a b)) (.agg (sum4 n9 c9 l9 g9 m9 dd9 k9 e9)) := (hS10.base (B' := w.heap.size) (by omega)).bux hR10 hX
      have hpS : p8 < ((((w10.setCell ⟨p8, 0, none⟩ (.slice n9 l9 g9)).setCell ⟨p8, 1, none⟩ (.slice c9 m9 dd9)).setCell ⟨p8, 2, none⟩ (.int .i64 k9)).setCell ⟨p8, 3, none⟩ (.int .i64 e9)).heap.size := (Array.getElem?_eq_some_iff.1 hRS).1
      obtain ⟨s0, s1, s2, s3⟩ := cells4 hRS
      clear P2 hS10 hX hR10 HF10 HF8 hR68 hR78 hR8 hB10
      have hkI : I64 k9 := by
        cases hd : mkS (difS 12 a b) with
        | er e => rw [hd] at hDS; obtain ⟨_, _, _, _, _, _, _, h1, _, h2⟩ := hDS; simp only [Value.agg.injEq] at h1; cases h1; exact h2
        | ok D => rw [hd] at hDS; obtain ⟨_, _, _, _, _, _, h1, _⟩ := hDS; simp only [Value.agg.injEq] at h1; cases h1; exact Sm.fits.k (HDG.out D hd).fit
      have SB : Hid (∀ y : World, Calls Tryz.prog 26 #[.int .i64 0, .int .i64 k9] y fun e w' => e = .returned (.tuple #[.int .i64 (Wd.nOf (-k9)), .int .i64 (Wd.eOf (-k9))]) ∧ Below y.heap.size y w') := fun y => rsub0 k9 y hkI
      go_wp2_with (fail)
      generalize ((((w10.setCell ⟨p8, 0, none⟩ (.slice n9 l9 g9)).setCell ⟨p8, 1, none⟩ (.slice c9 m9 dd9)).setCell ⟨p8, 2, none⟩ (.int .i64 k9)).setCell ⟨p8, 3, none⟩ (.int .i64 e9)) = wS at hDS HFS hRS hpS s0 s1 s2 s3 ⊢
      clear s0 s1 s2 s3
      refine (SB.out wS).mono ?_
      rintro e w11 ⟨rfl, hB11⟩
      have HF11 := HFS.keep hB11
      have hR11 := hRS.keep hB11
      have hD11 := hDS.below hB11
      clear HFS hRS hDS hB11 SB hpS
      go_wp2_with (fail)
      refine (note_any p8 (Wd.nOf (-k9)) (Wd.eOf (-k9)) n9 c9 l9 g9 m9 dd9 k9 e9 w11 hR11).mono ?_
      rintro en w12 ⟨rfl, hR12, hX12⟩
      have HF12 := HF11.bux hX12 hq8
      have hD12 := hD11.bux hR11 hX12
      clear HF11 hD11 hR11 hX12
      have SB2 := mkHid (rsub1 (Wd.nOf (-k9)) w12 (nOf_i64 _))
      go_wp2_with (fail)
      refine SB2.out.mono ?_
      rintro e w13 ⟨rfl, hB13⟩
      have HF13 := HF12.keep hB13
      have hR13 := hR12.keep hB13
      have hD13 := hD12.below hB13
      clear HF12 hR12 hD12 hB13 SB2
      go_wp2_with (fail)
      refine (note_any p8 (Wd.nOf (Wd.nOf (-k9) - 1)) (Wd.eOf (Wd.nOf (-k9) - 1)) n9 c9 l9 g9 m9 dd9 k9 (if Wd.eOf (-k9) = 0 then e9 else 91) w13 hR13).mono ?_
      rintro en w12 ⟨rfl, hR12, hX12⟩
      have HF12 := HF13.bux hX12 hq8
      have hD12 := hD13.bux hR13 hX12
      clear HF13 hD13 hR13 hX12
      have hneq : p8 ≠ w.heap.size + 1 := by omega
      -- how it came out
      have OUT : ((if Wd.eOf (Wd.nOf (-k9) - 1) = 0 then (if Wd.eOf (-k9) = 0 then e9 else 91) else 91) = 91 ∧ atm (.mk 12 x m [s, t] []) = .er 91) ∨ ∃ D, mkS (difS 12 a b) = .ok D ∧ (if Wd.eOf (Wd.nOf (-k9) - 1) = 0 then (if Wd.eOf (-k9) = 0 then e9 else 91) else 91) = 0 ∧ (Wd.nOf (Wd.nOf (-k9) - 1)) = bdOf 12 D.k ∧ in64 (-D.k) = true ∧ in64 (bdOf 12 D.k) = true := by
        cases hd : mkS (difS 12 a b) with
        | er e0 =>
          rw [hd] at hD12
          obtain ⟨_, _, _, _, _, _, _, h1, h2, _⟩ := hD12
          simp only [Value.agg.injEq] at h1
          cases h1
          have he0 := mkS_er hd
          subst he0
          left
          exact ⟨by simp, HBD.out.no _ hd⟩
        | ok D =>
          rw [hd] at hD12
          obtain ⟨_, _, _, _, _, _, h1, _⟩ := hD12
          simp only [Value.agg.injEq] at h1
          cases h1
          cases c1 : in64 (-D.k) with
          | false =>
            left
            have h9 : ¬ Wd.eOf (-D.k) = 0 := fun h => by rw [eOf_zero.1 h] at c1; cases c1
            exact ⟨by simp [h9], HBD.out.neg D hd c1⟩
          | true =>
            have h9 : Wd.eOf (-D.k) = 0 := eOf_zero.2 c1
            have hbo : bdOf 12 D.k = -D.k - 1 := by unfold bdOf; simp
            cases c2 : in64 (-D.k - 1) with
            | false =>
              left
              have h8 : ¬ Wd.eOf (Wd.nOf (-D.k) - 1) = 0 := fun h => by rw [nOf_in c1] at h; rw [eOf_zero.1 h] at c2; cases c2
              exact ⟨by simp [h8], HBD.out.wide D hd (by rw [hbo]; exact c2)⟩
            | true =>
              right
              have h8 : Wd.eOf (Wd.nOf (-D.k) - 1) = 0 := by rw [nOf_in c1]; exact eOf_zero.2 c2
              exact ⟨D, rfl, by simp [h8, h9], by rw [nOf_in c1, nOf_in c2, hbo], c1, by rw [hbo]; exact c2⟩
      generalize (if Wd.eOf (Wd.nOf (-k9) - 1) = 0 then (if Wd.eOf (-k9) = 0 then e9 else 91) else 91) = ee at OUT hR12
      generalize (Wd.nOf (Wd.nOf (-k9) - 1)) = bd at OUT ⊢
      rcases OUT with ⟨rfl, hP⟩ | ⟨D, hd, rfl, rfl, c1, c2⟩
      · have HP := mkHid hP
        obtain ⟨m0, m1, m2, m3⟩ := cells4 hR12
        clear HBD HDG hP
        obtain ⟨r0, s0⟩ := txcell HF12.res 0 _ rfl
        obtain ⟨r1, s1⟩ := txcell HF12.res 1 _ rfl
        obtain ⟨r2, s2⟩ := txcell HF12.res 2 _ rfl
        obtain ⟨r3, s3⟩ := txcell HF12.res 3 _ rfl
        obtain ⟨r4, s4⟩ := txcell HF12.res 4 _ rfl
        have hR9 := (rb_five HF12.res rfl (.int .i64 0) (.slice none 0 0) (.slice none 0 0) (.int .i64 0) (.int .i64 0)).keep (Below.refl _ _).drew
        have hB9 := mkHid (bel_st5n (B := w.heap.size + 1) HF12.bel (by omega) (.int .i64 0) (.slice none 0 0) (.slice none 0 0) (.int .i64 0) (.int .i64 0))
        replace hB9 := mkHid hB9.out.drew
        go_wp2_with (fail)
        have hRq := ((((hR12.other hneq 0 (.int .i64 0)).other hneq 1 (.slice none 0 0)).other hneq 2 (.slice none 0 0)).other hneq 3 (.int .i64 0)).other hneq 4 (.int .i64 0)
        have mq := (cells4 (hRq.keep (Below.refl _ _).drew)).2.2.2
        go_region
        go_wp2_with (fail)
        obtain ⟨k0, -⟩ := txcell hR9 0 _ rfl
        obtain ⟨k1, -⟩ := txcell hR9 1 _ rfl
        obtain ⟨k2, -⟩ := txcell hR9 2 _ rfl
        obtain ⟨k3, -⟩ := txcell hR9 3 _ rfl
        obtain ⟨k4, -⟩ := txcell hR9 4 _ rfl
        exact bodyPost_ret (v := .tuple #[.agg zN, .int .i64 91]) (by simp [results, Tryz.results11, go_sem, k0, k1, k2, k3, k4]) rfl ⟨_, rfl, by rw [HP.out]; rfl, hB9.out⟩
      · have gD := HDG.out D hd
        have HBT := mkHid (HBD.out.loose D hd c1 c2)
        have HBG := mkHid (HBD.out.good D hd c1 c2)
        have hbI : I64 (bdOf 12 D.k) := (in64_iff _).1 c2
        have hbx : ∃ bd, bdOf 12 D.k = bd := ⟨_, rfl⟩
        rw [hd] at hD12
        obtain ⟨n1, c1', l1, g1, m1', d1', hv1, hN1, hK1, hO1⟩ := hD12
        simp only [Value.agg.injEq] at hv1
        cases hv1
        obtain ⟨m0, m1, m2, m3⟩ := cells4 hR12
        obtain ⟨b0, b1, b2, b3, b4⟩ := form5 HF12.box
        have hZ1 := rdz_of_own2 hO1
        have hlen : D.cs.length = D.ns.length := gD.len
        have hnl : l9 = D.ns.length := hN1.eqlen.symm
        have hml : m9 = D.cs.length := hZ1.eqlen.symm
        have hfew := gD.few
        have hmm : m9 ≤ 1000 := by omega
        have hcl : D.cs.length ≤ 1000 := by omega
        have hIz : ∀ z ∈ D.cs, I64 z := fun z hz => Sm.fits.c gD.fit z hz
        clear HBD HDG c1 c2 hd hkI hbx hnl hml hlen
        have hb2 := mkHid hbI
        generalize hbe : bdOf 12 D.k = bd at hb2 hbI ⊢
        have hT : Hid (∀ a4 c4 (w4 : World), RdZ w4 a4 (1 + m9) c4 (bd :: D.cs) → ∃ xx er : Int, ((er = 0 ∧ tight (nrOf 12 m D)) ∨ (er ≠ 0 ∧ ¬ tight (nrOf 12 m D))) ∧ Calls Tryz.prog 29 #[.slice a4 (1 + m9) c4] w4 fun e w' => e = .returned (.tuple #[.int .i64 xx, .int .i64 er]) ∧ Below w4.heap.size w4 w') := by
          intro a4 c4 w4 hR4
          have hrow := row_of_rdz hR4 (by
            intro z hz
            rcases List.mem_cons.1 hz with rfl | hz
            · exact hb2.out
            · exact hIz z hz) (by unfold maxLen; omega)
          refine ⟨_, _, ?_, Chk.ref_total _ _ w4 hrow (by rw [List.length_cons]; omega)⟩
          have e : Chk.tot (bd :: D.cs) = bd.natAbs + Chk.tot D.cs := rfl
          have e2 : nrOf 12 m D = ⟨kdOf 12, D.ns, D.cs, bd, m⟩ := by rw [← hbe]; unfold nrOf; rw [if_neg (by decide)]
          rw [e2]
          unfold tight tot Chk.errT
          rw [e]
          by_cases ht : bd.natAbs + Chk.tot D.cs ≤ 9223372036854775807
          · left; exact ⟨if_pos ht, by show Chk.tot D.cs + bd.natAbs ≤ _; omega⟩
          · right; rw [if_neg ht]; exact ⟨by decide, by show ¬ (Chk.tot D.cs + bd.natAbs ≤ _); omega⟩
        have HNR : Hid (nrOf 12 m D = ⟨0, D.ns, D.cs, bd, m⟩) := by
          show _ = _
          rw [← hbe]; unfold nrOf; rw [if_neg (by decide)]; rfl
        have hSh : Short D.ns := fun y hy => by have := name_small ((nmB_iff y).1 (gD.nms y hy)); omega
        have q1 : (w12.alloc (.cells #[.int .i64 bd] 2)).cell? ⟨p8, 1, none⟩ = some (.slice c9 m9 dd9) := (cells4 (hR12.keep (bal w12 _))).2.1
        clear hbe gD
        go_wp2_with (at_builtin; refine wp_oneQ w12 rfl (.tmp 126) (.tmp 128) rfl bd rfl c9 m9 dd9 D.cs (by go_simp) hZ1 (by omega) ?_; intro a4 c4' w13 hR4 hB13)
        obtain ⟨xx, er, hE, hC⟩ := hT.out a4 c4' w13 hR4
        refine hC.mono ?_
        rintro e w14 ⟨rfl, hB14⟩
        have hB24 := bt2 hB13 hB14
        have HF14 := HF12.keep hB24
        have hR14 := hR12.keep hB24
        have hN14 := hN1.below (Nat.le_refl _) hB24
        have hZ14 := hZ1.below (Nat.le_refl _) hB24
        have hK14 := hK1.below hB24
        have hC14 := (bk_of_owns hO1).below hB24
        clear m0 m1 m2 m3 b0 b1 b2 b3 b4 q1 hT hR4 hC HF12 hR12 hN1 hZ1 hK1 hO1 hB13 hB14 hB24
        rcases hE with ⟨rfl, ht⟩ | ⟨hne, ht⟩
        · have HP := mkHid (HBG.out ht)
          obtain ⟨m0, m1, m2, m3⟩ := cells4 hR14
          obtain ⟨b0, b1, b2, b3, b4⟩ := form5 HF14.box
          obtain ⟨r0, s0⟩ := txcell HF14.res 0 _ rfl
          obtain ⟨r1, s1⟩ := txcell HF14.res 1 _ rfl
          obtain ⟨r2, s2⟩ := txcell HF14.res 2 _ rfl
          obtain ⟨r3, s3⟩ := txcell HF14.res 3 _ rfl
          obtain ⟨r4, s4⟩ := txcell HF14.res 4 _ rfl
          have hR9 := rb_five HF14.res rfl (.int .i64 0) (.slice n9 l9 g9) (.slice c9 m9 dd9) (.int .i64 bd) (.int .i64 m)
          have hB9 := mkHid (bel_st5n (B := w.heap.size + 1) HF14.bel (by omega) (.int .i64 0) (.slice n9 l9 g9) (.slice c9 m9 dd9) (.int .i64 bd) (.int .i64 m))
          have hM9 := mkHid (NrM.five (N := ⟨0, D.ns, D.cs, bd, m⟩) ⟨hN14, hZ14, hSh, hIz, hb2.out, by unfold maxLen; omega⟩ (hK14.ne HF14.res (by decide)) (hC14.ne HF14.res (by decide)) (.int .i64 0) (.slice n9 l9 g9) (.slice c9 m9 dd9) (.int .i64 bd) (.int .i64 m))
          clear HBT HBG ht hN14 hZ14 hK14 hC14
          go_wp2_with (fail)
          obtain ⟨k0, -⟩ := txcell hR9 0 _ rfl
          obtain ⟨k1, -⟩ := txcell hR9 1 _ rfl
          obtain ⟨k2, -⟩ := txcell hR9 2 _ rfl
          obtain ⟨k3, -⟩ := txcell hR9 3 _ rfl
          obtain ⟨k4, -⟩ := txcell hR9 4 _ rfl
          refine bodyPost_ret (v := .tuple #[nrV 0 bd m n9 c9 l9 g9 m9 dd9, .int .i64 0]) (by simp [results, Tryz.results11, go_sem, k0, k1, k2, k3, k4]) rfl ⟨_, rfl, ?_, hB9.out⟩
          rw [HP.out, HNR.out]
          exact ⟨_, _, _, _, _, _, rfl, hM9.out⟩
        · have HP := mkHid (HBT.out ht)
          have hx : (er != 0) = true := by rw [bne_iff_ne]; exact hne
          clear HBT HBG ht hne hN14 hZ14 hK14 hC14
          obtain ⟨r0, s0⟩ := txcell HF14.res 0 _ rfl
          obtain ⟨r1, s1⟩ := txcell HF14.res 1 _ rfl
          obtain ⟨r2, s2⟩ := txcell HF14.res 2 _ rfl
          obtain ⟨r3, s3⟩ := txcell HF14.res 3 _ rfl
          obtain ⟨r4, s4⟩ := txcell HF14.res 4 _ rfl
          have hR9 := rb_five HF14.res rfl (.int .i64 0) (.slice none 0 0) (.slice none 0 0) (.int .i64 0) (.int .i64 0)
          have hB9 := mkHid (bel_st5n (B := w.heap.size + 1) HF14.bel (by omega) (.int .i64 0) (.slice none 0 0) (.slice none 0 0) (.int .i64 0) (.int .i64 0))
          go_wp2_with (fail)
          obtain ⟨k0, -⟩ := txcell hR9 0 _ rfl
          obtain ⟨k1, -⟩ := txcell hR9 1 _ rfl
          obtain ⟨k2, -⟩ := txcell hR9 2 _ rfl
          obtain ⟨k3, -⟩ := txcell hR9 3 _ rfl
          obtain ⟨k4, -⟩ := txcell hR9 4 _ rfl
          exact bodyPost_ret (v := .tuple #[.agg zN, .int .i64 91]) (by simp [results, Tryz.results11, go_sem, k0, k1, k2, k3, k4]) rfl ⟨_, rfl, by rw [HP.out]; rfl, hB9.out⟩end Go.Proofs.YtiapkblebbcfbaaGreat.Gl
/- The document's Atom: operation 13. -/
namespace Go.Proofs.YtiapkblebbcfbaaGreat.Gl
open Go Go.RowKit
set_option linter.unusedVariables false
set_option linter.unusedSimpArgs false

set_option maxRecDepth 100000 in
set_option maxHeartbeats 40000000 in
theorem ratom_13 (W : World) (m : Int) (x : ByteArray) (s t : Tm) (v : Value) (w : World) (hv : FmV W (.mk 13 x m [s, t] []) v) (hW : Below W.heap.size W w) (h0 : chk nmB (.mk 13 x m [s, t] []) = 0) (h1 : ¬ ((13 : Int) < 9)) :
    Calls Tryz.prog 11 #[v] w fun e w' => ∃ v', e = .returned v' ∧ RAr w' (atm (.mk 13 x m [s, t] [])) v' ∧ Below w.heap.size w w' := by
  have hwell := fm_right h0
  have hfa := fm_atom hwell.1 h1
  have hs := hwell.2.1 s (List.mem_cons_self ..)
  have ht := hwell.2.1 t (List.mem_cons_of_mem _ (List.mem_cons_self ..))
  have hsz : s.size + t.size ≤ 499 := by have := hwell.2.2; simp only [Tm.sizeL, Fm.sizeL] at this; omega
  have HA : Hid (atm (.mk 13 x m [s, t] []) = match dfS 13 s t with | .er e => .er e | .ok D => finS 13 m D) := (atm_at h0 h1).trans (atmS_eq 13 m s t)
  have HMD := mkHid hfa.2.2
  have CK : Hid (∀ w', Below w.heap.size w w' → Calls Tryz.prog 24 #[v] w' fun e w'' => e = .returned (.int .i64 0) ∧ Below w'.heap.size w' w'') := fun w' h => by
    have := rcheck_at W _ v w' hv (hW.trans (h.mono hW.size))
    rw [h0] at this
    exact this
  obtain ⟨c0, c1, c2, c3, c4, rfl, hr⟩ := hv
  rw [RdF] at hr
  obtain ⟨rfl, rfl, rfl, ⟨hio, him, -⟩, ⟨ao, cap, rfl, hcap, hcm, hk⟩, -⟩ := hr
  obtain ⟨g, of, d0, d1, d2, d3, f0, f1, f2, f3, rfl, q0, q1, q2, q3, hrt, t0, t1, t2, t3, hru, hg⟩ := two_kids hk
  have hcap' : 2 ≤ cap := hcap
  have WS : Hid (∀ y, Below W.heap.size W y → Calls Tryz.prog 17 #[.agg #[d0, d1, d2, d3]] y fun e w' => ∃ v', e = .returned v' ∧ DSum w' (lin s) v' ∧ Below y.heap.size y w') := fun y hy => work_at s hs W (.agg #[d0, d1, d2, d3]) y ⟨_, _, _, _, rfl, hrt⟩ hy (by omega)
  have WT : Hid (∀ y, Below W.heap.size W y → Calls Tryz.prog 17 #[.agg #[f0, f1, f2, f3]] y fun e w' => ∃ v', e = .returned v' ∧ DSum w' (lin t) v' ∧ Below y.heap.size y w') := fun y hy => work_at t ht W (.agg #[f0, f1, f2, f3]) y ⟨_, _, _, _, rfl, hru⟩ hy (by omega)
  have TS : Hid (∀ y : World, Below W.heap.size W y → y.cell? ⟨g, of, none⟩ = some d0 ∧ y.cell? ⟨g, of + 1, none⟩ = some d1 ∧ y.cell? ⟨g, of + 2, none⟩ = some d2 ∧ y.cell? ⟨g, of + 3, none⟩ = some d3) := fun y hy => ⟨(hy.cell (p := ⟨g, of, none⟩) hg).trans q0, (hy.cell (p := ⟨g, of + 1, none⟩) hg).trans q1, (hy.cell (p := ⟨g, of + 2, none⟩) hg).trans q2, (hy.cell (p := ⟨g, of + 3, none⟩) hg).trans q3⟩
  have TU : Hid (∀ y : World, Below W.heap.size W y → y.cell? ⟨g, of + 4, none⟩ = some f0 ∧ y.cell? ⟨g, of + 5, none⟩ = some f1 ∧ y.cell? ⟨g, of + 6, none⟩ = some f2 ∧ y.cell? ⟨g, of + 7, none⟩ = some f3) := fun y hy => ⟨(hy.cell (p := ⟨g, of + 4, none⟩) hg).trans t0, (hy.cell (p := ⟨g, of + 5, none⟩) hg).trans t1, (hy.cell (p := ⟨g, of + 6, none⟩) hg).trans t2, (hy.cell (p := ⟨g, of + 7, none⟩) hg).trans t3⟩
  have HGs : Hid (∀ p, lin s = .ok p → p.good nmB 500) := fun p hp => (lin_good nmB s hs p hp).mono (by omega)
  have HGt : Hid (∀ p, lin t = .ok p → p.good nmB 500) := fun p hp => (lin_good nmB t ht p hp).mono (by omega)
  have HEs : Hid (∀ e, lin s = .er e → e = 90 ∨ e = 91) := lin_er nmB s hs
  have HEt : Hid (∀ e, lin t = .er e → e = 90 ∨ e = 91) := lin_er nmB t ht
  have HGD : Hid (∀ D, dfS 13 s t = .ok D → D.good nmB 1000) := fun D hD => dfS_good hs ht hsz hD
  have HF := frF_new w (.int .i64 13) (.string x) (.int .i64 m) (.slice (some ⟨g, of, none⟩) 2 cap) c4 zN 44
  clear h0 hwell hfa hs ht q0 q1 q2 q3 t0 t1 t2 t3 hrt hru hk
  go_enter Tryz.func11, Tryz.ntmps11
  go_wp2_with (fail)
  generalize (w.alloc (.cells #[.int .i64 13, .string x, .int .i64 m, .slice (some ⟨g, of, none⟩) 2 cap, c4] 41)).alloc (.cells zN 44) = w2 at HF ⊢
  refine (CK.out w2 HF.bel).mono ?_
  rintro e w3 ⟨rfl, hB3⟩
  have HF3 := HF.keep hB3
  obtain ⟨b0, b1, b2, b3, b4⟩ := form5 HF3.box
  have hW3 : Below W.heap.size W w3 := hW.trans (HF3.bel.mono hW.size)
  obtain ⟨p0, p1, p2, p3⟩ := TS.out w3 hW3
  have WS3 := mkHid (WS.out w3 hW3)
  clear CK HF WS TS
  go_wp2_with (fail)
  refine WS3.out.mono ?_
  rintro e w4 ⟨v4, rfl, hL, hB4⟩
  have HF4 := HF3.keep hB4
  clear WS3 b0 b1 b2 b3 b4 p0 p1 p2 p3
  cases hls : lin s with
  | er e =>
    rw [hls] at hL
    have he := HEs.out e hls
    obtain ⟨na, ca, n, c, l, d, ka, rfl, -⟩ := hL
    have hx : ((e : Int) != 0) = true := by rw [bne_iff_ne]; omega
    have HP : Hid (atm (.mk 13 x m [s, t] []) = .er e) := by show _ = _; rw [HA.out]; unfold dfS; rw [hls]
    have HF5 := HF4.keep (bal w4 (.cells (sum4 na ca n c l d ka e) 32))
    have hR5 := rb_new w4 (sum4 na ca n c l d ka e) 32
    clear HGs HGt HEs HEt HGD HA WT TU
    go_wp2_with (fail)
    have hneq : w4.heap.size ≠ w.heap.size + 1 := by have := HF4.size; omega
    generalize w4.alloc (.cells (sum4 na ca n c l d ka e) 32) = w5 at HF5 hR5 ⊢
    obtain ⟨m0, m1, m2, m3⟩ := cells4 hR5
    obtain ⟨r0, s0⟩ := txcell HF5.res 0 _ rfl
    obtain ⟨r1, s1⟩ := txcell HF5.res 1 _ rfl
    obtain ⟨r2, s2⟩ := txcell HF5.res 2 _ rfl
    obtain ⟨r3, s3⟩ := txcell HF5.res 3 _ rfl
    obtain ⟨r4, s4⟩ := txcell HF5.res 4 _ rfl
    have hR9 := (rb_five HF5.res rfl (.int .i64 0) (.slice none 0 0) (.slice none 0 0) (.int .i64 0) (.int .i64 0)).keep (Below.refl _ _).drew
    have hB9 := mkHid (bel_st5n (B := w.heap.size + 1) HF5.bel (by omega) (.int .i64 0) (.slice none 0 0) (.slice none 0 0) (.int .i64 0) (.int .i64 0))
    replace hB9 := mkHid hB9.out.drew
    go_wp2_with (fail)
    have hRq := ((((hR5.other hneq 0 (.int .i64 0)).other hneq 1 (.slice none 0 0)).other hneq 2 (.slice none 0 0)).other hneq 3 (.int .i64 0)).other hneq 4 (.int .i64 0)
    have mq := (cells4 (hRq.keep (Below.refl _ _).drew)).2.2.2
    go_region
    go_wp2_with (fail)
    obtain ⟨k0, -⟩ := txcell hR9 0 _ rfl
    obtain ⟨k1, -⟩ := txcell hR9 1 _ rfl
    obtain ⟨k2, -⟩ := txcell hR9 2 _ rfl
    obtain ⟨k3, -⟩ := txcell hR9 3 _ rfl
    obtain ⟨k4, -⟩ := txcell hR9 4 _ rfl
    exact bodyPost_ret (v := .tuple #[.agg zN, .int .i64 (e : Nat)]) (by simp [results, Tryz.results11, go_sem, k0, k1, k2, k3, k4]) rfl ⟨_, rfl, by rw [HP.out]; rfl, hB9.out⟩
  | ok a =>
    rw [hls] at hL
    have gA := HGs.out a hls
    obtain ⟨na, ca, n, c, l, d, rfl, hN, hZ, hK, hC⟩ := hL
    have hln : n = l := by have := gA.len; rw [hN.eqlen, hZ.eqlen] at this; exact this.symm
    subst hln
    have hB5 := bal w4 (.cells (sum4 na ca n c n d a.k 0) 32)
    have HF5 := HF4.keep hB5
    have hR5 := rb_new w4 (sum4 na ca n c n d a.k 0) 32
    have hW5 : Below W.heap.size W (w4.alloc (.cells (sum4 na ca n c n d a.k 0) 32)) := hW.trans (HF5.bel.mono hW.size)
    obtain ⟨p0, p1, p2, p3⟩ := TU.out _ hW5
    obtain ⟨b0, b1, b2, b3, b4⟩ := form5 HF5.box
    obtain ⟨p0', p1', p2', p3'⟩ := TU.out w4 (hW.trans (HF4.bel.mono hW.size))
    obtain ⟨b0', b1', b2', b3', b4'⟩ := form5 HF4.box
    have WT5 := mkHid (WT.out _ hW5)
    have hN5 := hN.below (Nat.le_refl _) hB5
    have hZ5 := hZ.below (Nat.le_refl _) hB5
    have hnn : n ≤ 500 := by have := gA.few; rw [hN.eqlen] at this; exact this
    have fA := mkHid gA.fit
    have HLs := mkHid hls
    have hs4 := HF4.size
    have hp6 : w4.heap.size < (w4.alloc (.cells (sum4 na ca n c n d a.k 0) 32)).heap.size := by simp
    clear HGs HEs WT TU hN hZ hK hC hls gA
    go_wp2_with (fail)
    generalize w4.heap.size = p6 at hR5 hs4 hp6 ⊢
    generalize w4.alloc (.cells (sum4 na ca n c n d a.k 0) 32) = w5 at hB5 HF5 hR5 hW5 WT5 hN5 hZ5 hp6 p0 p1 p2 p3 b0 b1 b2 b3 b4 ⊢
    clear hB5 hB4 HF4 p0 p1 p2 p3 b0 b1 b2 b3 b4 p0' p1' p2' p3' b0' b1' b2' b3' b4'
    refine WT5.out.mono ?_
    rintro e w6 ⟨v6, rfl, hL6, hB6⟩
    have HF6 := HF5.keep hB6
    have hR6 := hR5.keep hB6
    clear WT5
    cases hlt : lin t with
    | er e =>
      rw [hlt] at hL6
      have he := HEt.out e hlt
      obtain ⟨nb, cb, n', c', l', d', kb, rfl, -⟩ := hL6
      have hx : ((e : Int) != 0) = true := by rw [bne_iff_ne]; omega
      have HP : Hid (atm (.mk 13 x m [s, t] []) = .er e) := by show _ = _; rw [HA.out]; unfold dfS; rw [HLs.out, hlt]
      have HF7 := HF6.keep (bal w6 (.cells (sum4 nb cb n' c' l' d' kb e) 32))
      have hR7 := rb_new w6 (sum4 nb cb n' c' l' d' kb e) 32
      have hneq : w6.heap.size ≠ w.heap.size + 1 := by have := HF6.size; omega
      clear HGt HEt HGD HA HLs hN5 hZ5 fA hR5 hR6
      go_wp2_with (fail)
      generalize w6.alloc (.cells (sum4 nb cb n' c' l' d' kb e) 32) = w7 at HF7 hR7 ⊢
      obtain ⟨m0, m1, m2, m3⟩ := cells4 hR7
      obtain ⟨r0, s0⟩ := txcell HF7.res 0 _ rfl
      obtain ⟨r1, s1⟩ := txcell HF7.res 1 _ rfl
      obtain ⟨r2, s2⟩ := txcell HF7.res 2 _ rfl
      obtain ⟨r3, s3⟩ := txcell HF7.res 3 _ rfl
      obtain ⟨r4, s4⟩ := txcell HF7.res 4 _ rfl
      have hR9 := (rb_five HF7.res rfl (.int .i64 0) (.slice none 0 0) (.slice none 0 0) (.int .i64 0) (.int .i64 0)).keep (Below.refl _ _).drew
      have hB9 := mkHid (bel_st5n (B := w.heap.size + 1) HF7.bel (by omega) (.int .i64 0) (.slice none 0 0) (.slice none 0 0) (.int .i64 0) (.int .i64 0))
      replace hB9 := mkHid hB9.out.drew
      go_wp2_with (fail)
      have hRq := ((((hR7.other hneq 0 (.int .i64 0)).other hneq 1 (.slice none 0 0)).other hneq 2 (.slice none 0 0)).other hneq 3 (.int .i64 0)).other hneq 4 (.int .i64 0)
      have mq := (cells4 (hRq.keep (Below.refl _ _).drew)).2.2.2
      go_region
      go_wp2_with (fail)
      obtain ⟨k0, -⟩ := txcell hR9 0 _ rfl
      obtain ⟨k1, -⟩ := txcell hR9 1 _ rfl
      obtain ⟨k2, -⟩ := txcell hR9 2 _ rfl
      obtain ⟨k3, -⟩ := txcell hR9 3 _ rfl
      obtain ⟨k4, -⟩ := txcell hR9 4 _ rfl
      exact bodyPost_ret (v := .tuple #[.agg zN, .int .i64 (e : Nat)]) (by simp [results, Tryz.results11, go_sem, k0, k1, k2, k3, k4]) rfl ⟨_, rfl, by rw [HP.out]; rfl, hB9.out⟩
    | ok b =>
      rw [hlt] at hL6
      have gB := HGt.out b hlt
      obtain ⟨nb, cb, n', c', l', d', rfl, hM, hY, -, -⟩ := hL6
      have hln' : n' = l' := by have := gB.len; rw [hM.eqlen, hY.eqlen] at this; exact this.symm
      subst hln'
      have hB7 := bal w6 (.cells (sum4 nb cb n' c' n' d' b.k 0) 32)
      have HF7 := HF6.keep hB7
      have hR7 := rb_new w6 (sum4 nb cb n' c' n' d' b.k 0) 32
      have hR67 := hR6.keep hB7
      have hN7 := hN5.below (Nat.le_refl _) (bt2 hB6 hB7)
      have hZ7 := hZ5.below (Nat.le_refl _) (bt2 hB6 hB7)
      have hM7 := hM.below (Nat.le_refl _) hB7
      have hY7 := hY.below (Nat.le_refl _) hB7
      have hnn' : n' ≤ 500 := by have := gB.few; rw [hM.eqlen] at this; exact this
      have hs6 := hB6.size
      have hp7 : w6.heap.size < (w6.alloc (.cells (sum4 nb cb n' c' n' d' b.k 0) 32)).heap.size := by simp
      have HD : Hid (dfS 13 s t = mkS (difS 13 a b)) := by show _ = _; unfold dfS; rw [HLs.out, hlt]
      have fB := mkHid gB.fit
      obtain ⟨a0, a1, a2, a3⟩ := cells4 hR67
      obtain ⟨b0, b1, b2, b3⟩ := cells4 hR7
      clear HGt HEt HLs hN5 hZ5 hM hY hR5 hR6 gB hlt
      go_wp2_with (fail)
      have hp67 : p6 < w6.heap.size := by omega
      generalize w6.heap.size = p7 at hR7 hp7 hp67 b0 b1 b2 b3 ⊢
      generalize w6.alloc (.cells (sum4 nb cb n' c' n' d' b.k 0) 32) = w7 at HF7 hR7 hR67 hN7 hZ7 hM7 hY7 hp7 a0 a1 a2 a3 b0 b1 b2 b3 hB7 ⊢
      have P1 := mkHid (rplus_at a b na ca nb cb n c n d n' c' n' d' true w7 hN7 hZ7 hM7 hY7 (by omega) (by omega) fA.out fB.out rfl rfl)
      clear hB6 hB7 HF5 HF6 hW5 a0 a1 a2 a3 b0 b1 b2 b3
      refine P1.out.mono ?_
      rintro e w8 ⟨v8, rfl, hS8, hB8⟩
      obtain ⟨n8, c8, l8, g8, m8, d8, k8, e8, rfl⟩ := hS8.sum.shape
      have HF8 := HF7.keep (bt2 hB8 (bal w8 (.cells (sum4 n8 c8 l8 g8 m8 d8 k8 e8) 32)))
      have hR68 := hR67.keep (bt2 hB8 (bal w8 (.cells (sum4 n8 c8 l8 g8 m8 d8 k8 e8) 32)))
      have hR78 := hR7.keep (bt2 hB8 (bal w8 (.cells (sum4 n8 c8 l8 g8 m8 d8 k8 e8) 32)))
      have hR8 := rb_new w8 (sum4 n8 c8 l8 g8 m8 d8 k8 e8) 32
      clear P1
      have HBD := mkHid (bd_of (w := w) (m := m) HA.out HD.out)
      have HDG : Hid (∀ D, mkS (difS 13 a b) = .ok D → D.good nmB 1000) := fun D h => HGD.out D (HD.out.trans h)
      have hs8 := HF8.size
      have hB78 := bt2 hB8 (bal w8 (.cells (sum4 n8 c8 l8 g8 m8 d8 k8 e8) 32))
      have hS9 := (hS8.below (bal w8 (.cells (sum4 n8 c8 l8 g8 m8 d8 k8 e8) 32))).base (B' := w.heap.size) (by have := HF7.size; omega)
      have hp8 : w8.heap.size < (w8.alloc (.cells (sum4 n8 c8 l8 g8 m8 d8 k8 e8) 32)).heap.size := by simp
      have hq8 : w.heap.size + 1 < w8.heap.size := by have := HF7.size; have := hB8.size; omega
      have hp78 : p7 < w8.heap.size := Nat.lt_of_lt_of_le hp7 hB8.size
      have hN9 := hN7.below (Nat.le_refl _) hB78
      have hZ9 := hZ7.below (Nat.le_refl _) hB78
      have hM9 := hM7.below (Nat.le_refl _) hB78
      have hY9 := hY7.below (Nat.le_refl _) hB78
      obtain ⟨s0, s1, s2, s3⟩ := cells4 hR8
      obtain ⟨a0, a1, a2, a3⟩ := cells4 hR68
      obtain ⟨b0, b1, b2, b3⟩ := cells4 hR78
      clear HGD HA HD hS8 hB8 hB78 hN7 hZ7 hM7 hY7 hR7 hR67
      have hpS := hp8
      have HFS := HF8
      have hRS := hR8
      have hDS : DSumO w.heap.size _ (mkS (difS 13 a b)) (.agg (sum4 n8 c8 l8 g8 m8 d8 k8 e8)) := hS9
      clear hN9 hZ9 hM9 hY9 hS9 hR68 hR78 a0 a1 a2 a3 b0 b1 b2 b3 fA fB HF8 hR8 hp8
      have hkI : I64 k8 := by
        cases hd : mkS (difS 13 a b) with
        | er e => rw [hd] at hDS; obtain ⟨_, _, _, _, _, _, _, h1, _, h2⟩ := hDS; simp only [Value.agg.injEq] at h1; cases h1; exact h2
        | ok D => rw [hd] at hDS; obtain ⟨_, _, _, _, _, _, h1, _⟩ := hDS; simp only [Value.agg.injEq] at h1; cases h1; exact Sm.fits.k (HDG.out D hd).fit
      have SB : Hid (∀ y : World, Calls Tryz.prog 26 #[.int .i64 0, .int .i64 k8] y fun e w' => e = .returned (.tuple #[.int .i64 (Wd.nOf (-k8)), .int .i64 (Wd.eOf (-k8))]) ∧ Below y.heap.size y w') := fun y => rsub0 k8 y hkI
      go_wp2_with (fail)
      generalize w8.heap.size = p8 at hRS hpS hq8 hp78 s0 s1 s2 s3 ⊢
      generalize w8.alloc (.cells (sum4 n8 c8 l8 g8 m8 d8 k8 e8) 32) = wS at hDS HFS hRS hpS s0 s1 s2 s3 hs8 ⊢
      clear s0 s1 s2 s3
      refine (SB.out wS).mono ?_
      rintro e w11 ⟨rfl, hB11⟩
      have HF11 := HFS.keep hB11
      have hR11 := hRS.keep hB11
      have hD11 := hDS.below hB11
      clear HFS hRS hDS hB11 SB hpS
      go_wp2_with (fail)
      refine (note_any p8 (Wd.nOf (-k8)) (Wd.eOf (-k8)) n8 c8 l8 g8 m8 d8 k8 e8 w11 hR11).mono ?_
      rintro en w12 ⟨rfl, hR12, hX12⟩
      have HF12 := HF11.bux hX12 hq8
      have hD12 := hD11.bux hR11 hX12
      clear HF11 hD11 hR11 hX12
      have hneq : p8 ≠ w.heap.size + 1 := by omega
      -- how it came out
      have OUT : ((if Wd.eOf (-k8) = 0 then e8 else 91) = 91 ∧ atm (.mk 13 x m [s, t] []) = .er 91) ∨ ∃ D, mkS (difS 13 a b) = .ok D ∧ (if Wd.eOf (-k8) = 0 then e8 else 91) = 0 ∧ (Wd.nOf (-k8)) = bdOf 13 D.k ∧ in64 (-D.k) = true ∧ in64 (bdOf 13 D.k) = true := by
        cases hd : mkS (difS 13 a b) with
        | er e0 =>
          rw [hd] at hD12
          obtain ⟨_, _, _, _, _, _, _, h1, h2, _⟩ := hD12
          simp only [Value.agg.injEq] at h1
          cases h1
          have he0 := mkS_er hd
          subst he0
          left
          exact ⟨by simp, HBD.out.no _ hd⟩
        | ok D =>
          rw [hd] at hD12
          obtain ⟨_, _, _, _, _, _, h1, _⟩ := hD12
          simp only [Value.agg.injEq] at h1
          cases h1
          cases c1 : in64 (-D.k) with
          | false =>
            left
            have h9 : ¬ Wd.eOf (-D.k) = 0 := fun h => by rw [eOf_zero.1 h] at c1; cases c1
            exact ⟨by simp [h9], HBD.out.neg D hd c1⟩
          | true =>
            have h9 : Wd.eOf (-D.k) = 0 := eOf_zero.2 c1
            have hbo : bdOf 13 D.k = -D.k := by unfold bdOf; simp
            right
            exact ⟨D, rfl, by simp [h9], by rw [nOf_in c1, hbo], c1, by rw [hbo]; exact c1⟩
      generalize (if Wd.eOf (-k8) = 0 then e8 else 91) = ee at OUT hR12
      generalize (Wd.nOf (-k8)) = bd at OUT ⊢
      rcases OUT with ⟨rfl, hP⟩ | ⟨D, hd, rfl, rfl, c1, c2⟩
      · have HP := mkHid hP
        obtain ⟨m0, m1, m2, m3⟩ := cells4 hR12
        clear HBD HDG hP
        obtain ⟨r0, s0⟩ := txcell HF12.res 0 _ rfl
        obtain ⟨r1, s1⟩ := txcell HF12.res 1 _ rfl
        obtain ⟨r2, s2⟩ := txcell HF12.res 2 _ rfl
        obtain ⟨r3, s3⟩ := txcell HF12.res 3 _ rfl
        obtain ⟨r4, s4⟩ := txcell HF12.res 4 _ rfl
        have hR9 := (rb_five HF12.res rfl (.int .i64 0) (.slice none 0 0) (.slice none 0 0) (.int .i64 0) (.int .i64 0)).keep (Below.refl _ _).drew
        have hB9 := mkHid (bel_st5n (B := w.heap.size + 1) HF12.bel (by omega) (.int .i64 0) (.slice none 0 0) (.slice none 0 0) (.int .i64 0) (.int .i64 0))
        replace hB9 := mkHid hB9.out.drew
        go_wp2_with (fail)
        have hRq := ((((hR12.other hneq 0 (.int .i64 0)).other hneq 1 (.slice none 0 0)).other hneq 2 (.slice none 0 0)).other hneq 3 (.int .i64 0)).other hneq 4 (.int .i64 0)
        have mq := (cells4 (hRq.keep (Below.refl _ _).drew)).2.2.2
        go_region
        go_wp2_with (fail)
        obtain ⟨k0, -⟩ := txcell hR9 0 _ rfl
        obtain ⟨k1, -⟩ := txcell hR9 1 _ rfl
        obtain ⟨k2, -⟩ := txcell hR9 2 _ rfl
        obtain ⟨k3, -⟩ := txcell hR9 3 _ rfl
        obtain ⟨k4, -⟩ := txcell hR9 4 _ rfl
        exact bodyPost_ret (v := .tuple #[.agg zN, .int .i64 91]) (by simp [results, Tryz.results11, go_sem, k0, k1, k2, k3, k4]) rfl ⟨_, rfl, by rw [HP.out]; rfl, hB9.out⟩
      · have gD := HDG.out D hd
        have HBT := mkHid (HBD.out.loose D hd c1 c2)
        have HBG := mkHid (HBD.out.good D hd c1 c2)
        have hbI : I64 (bdOf 13 D.k) := (in64_iff _).1 c2
        have hbx : ∃ bd, bdOf 13 D.k = bd := ⟨_, rfl⟩
        rw [hd] at hD12
        obtain ⟨n1, c1', l1, g1, m1', d1', hv1, hN1, hK1, hO1⟩ := hD12
        simp only [Value.agg.injEq] at hv1
        cases hv1
        obtain ⟨m0, m1, m2, m3⟩ := cells4 hR12
        obtain ⟨b0, b1, b2, b3, b4⟩ := form5 HF12.box
        have hZ1 := rdz_of_own2 hO1
        have hlen : D.cs.length = D.ns.length := gD.len
        have hnl : l8 = D.ns.length := hN1.eqlen.symm
        have hml : m8 = D.cs.length := hZ1.eqlen.symm
        have hfew := gD.few
        have hmm : m8 ≤ 1000 := by omega
        have hcl : D.cs.length ≤ 1000 := by omega
        have hIz : ∀ z ∈ D.cs, I64 z := fun z hz => Sm.fits.c gD.fit z hz
        clear HBD HDG c1 c2 hd hkI hbx hnl hml hlen
        have hb2 := mkHid hbI
        generalize hbe : bdOf 13 D.k = bd at hb2 hbI ⊢
        have hT : Hid (∀ a4 c4 (w4 : World), RdZ w4 a4 (1 + m8) c4 (bd :: D.cs) → ∃ xx er : Int, ((er = 0 ∧ tight (nrOf 13 m D)) ∨ (er ≠ 0 ∧ ¬ tight (nrOf 13 m D))) ∧ Calls Tryz.prog 29 #[.slice a4 (1 + m8) c4] w4 fun e w' => e = .returned (.tuple #[.int .i64 xx, .int .i64 er]) ∧ Below w4.heap.size w4 w') := by
          intro a4 c4 w4 hR4
          have hrow := row_of_rdz hR4 (by
            intro z hz
            rcases List.mem_cons.1 hz with rfl | hz
            · exact hb2.out
            · exact hIz z hz) (by unfold maxLen; omega)
          refine ⟨_, _, ?_, Chk.ref_total _ _ w4 hrow (by rw [List.length_cons]; omega)⟩
          have e : Chk.tot (bd :: D.cs) = bd.natAbs + Chk.tot D.cs := rfl
          have e2 : nrOf 13 m D = ⟨kdOf 13, D.ns, D.cs, bd, m⟩ := by rw [← hbe]; unfold nrOf; rw [if_neg (by decide)]
          rw [e2]
          unfold tight tot Chk.errT
          rw [e]
          by_cases ht : bd.natAbs + Chk.tot D.cs ≤ 9223372036854775807
          · left; exact ⟨if_pos ht, by show Chk.tot D.cs + bd.natAbs ≤ _; omega⟩
          · right; rw [if_neg ht]; exact ⟨by decide, by show ¬ (Chk.tot D.cs + bd.natAbs ≤ _); omega⟩
        have HNR : Hid (nrOf 13 m D = ⟨1, D.ns, D.cs, bd, m⟩) := by
          show _ = _
          rw [← hbe]; unfold nrOf; rw [if_neg (by decide)]; rfl
        have hSh : Short D.ns := fun y hy => by have := name_small ((nmB_iff y).1 (gD.nms y hy)); omega
        have q1 : (w12.alloc (.cells #[.int .i64 bd] 2)).cell? ⟨p8, 1, none⟩ = some (.slice c8 m8 d8) := (cells4 (hR12.keep (bal w12 _))).2.1
        clear hbe gD
        go_wp2_with (at_builtin; refine wp_oneQ w12 rfl (.tmp 126) (.tmp 128) rfl bd rfl c8 m8 d8 D.cs (by go_simp) hZ1 (by omega) ?_; intro a4 c4' w13 hR4 hB13)
        obtain ⟨xx, er, hE, hC⟩ := hT.out a4 c4' w13 hR4
        refine hC.mono ?_
        rintro e w14 ⟨rfl, hB14⟩
        have hB24 := bt2 hB13 hB14
        have HF14 := HF12.keep hB24
        have hR14 := hR12.keep hB24
        have hN14 := hN1.below (Nat.le_refl _) hB24
        have hZ14 := hZ1.below (Nat.le_refl _) hB24
        have hK14 := hK1.below hB24
        have hC14 := (bk_of_owns hO1).below hB24
        clear m0 m1 m2 m3 b0 b1 b2 b3 b4 q1 hT hR4 hC HF12 hR12 hN1 hZ1 hK1 hO1 hB13 hB14 hB24
        rcases hE with ⟨rfl, ht⟩ | ⟨hne, ht⟩
        · have HP := mkHid (HBG.out ht)
          obtain ⟨m0, m1, m2, m3⟩ := cells4 hR14
          obtain ⟨b0, b1, b2, b3, b4⟩ := form5 HF14.box
          obtain ⟨r0, s0⟩ := txcell HF14.res 0 _ rfl
          obtain ⟨r1, s1⟩ := txcell HF14.res 1 _ rfl
          obtain ⟨r2, s2⟩ := txcell HF14.res 2 _ rfl
          obtain ⟨r3, s3⟩ := txcell HF14.res 3 _ rfl
          obtain ⟨r4, s4⟩ := txcell HF14.res 4 _ rfl
          have hR9 := rb_five HF14.res rfl (.int .i64 1) (.slice n8 l8 g8) (.slice c8 m8 d8) (.int .i64 bd) (.int .i64 m)
          have hB9 := mkHid (bel_st5n (B := w.heap.size + 1) HF14.bel (by omega) (.int .i64 1) (.slice n8 l8 g8) (.slice c8 m8 d8) (.int .i64 bd) (.int .i64 m))
          have hM9 := mkHid (NrM.five (N := ⟨1, D.ns, D.cs, bd, m⟩) ⟨hN14, hZ14, hSh, hIz, hb2.out, by unfold maxLen; omega⟩ (hK14.ne HF14.res (by decide)) (hC14.ne HF14.res (by decide)) (.int .i64 1) (.slice n8 l8 g8) (.slice c8 m8 d8) (.int .i64 bd) (.int .i64 m))
          clear HBT HBG ht hN14 hZ14 hK14 hC14
          go_wp2_with (fail)
          obtain ⟨k0, -⟩ := txcell hR9 0 _ rfl
          obtain ⟨k1, -⟩ := txcell hR9 1 _ rfl
          obtain ⟨k2, -⟩ := txcell hR9 2 _ rfl
          obtain ⟨k3, -⟩ := txcell hR9 3 _ rfl
          obtain ⟨k4, -⟩ := txcell hR9 4 _ rfl
          refine bodyPost_ret (v := .tuple #[nrV 1 bd m n8 c8 l8 g8 m8 d8, .int .i64 0]) (by simp [results, Tryz.results11, go_sem, k0, k1, k2, k3, k4]) rfl ⟨_, rfl, ?_, hB9.out⟩
          rw [HP.out, HNR.out]
          exact ⟨_, _, _, _, _, _, rfl, hM9.out⟩
        · have HP := mkHid (HBT.out ht)
          have hx : (er != 0) = true := by rw [bne_iff_ne]; exact hne
          clear HBT HBG ht hne hN14 hZ14 hK14 hC14
          obtain ⟨r0, s0⟩ := txcell HF14.res 0 _ rfl
          obtain ⟨r1, s1⟩ := txcell HF14.res 1 _ rfl
          obtain ⟨r2, s2⟩ := txcell HF14.res 2 _ rfl
          obtain ⟨r3, s3⟩ := txcell HF14.res 3 _ rfl
          obtain ⟨r4, s4⟩ := txcell HF14.res 4 _ rfl
          have hR9 := rb_five HF14.res rfl (.int .i64 0) (.slice none 0 0) (.slice none 0 0) (.int .i64 0) (.int .i64 0)
          have hB9 := mkHid (bel_st5n (B := w.heap.size + 1) HF14.bel (by omega) (.int .i64 0) (.slice none 0 0) (.slice none 0 0) (.int .i64 0) (.int .i64 0))
          go_wp2_with (fail)
          obtain ⟨k0, -⟩ := txcell hR9 0 _ rfl
          obtain ⟨k1, -⟩ := txcell hR9 1 _ rfl
          obtain ⟨k2, -⟩ := txcell hR9 2 _ rfl
          obtain ⟨k3, -⟩ := txcell hR9 3 _ rfl
          obtain ⟨k4, -⟩ := txcell hR9 4 _ rfl
          exact bodyPost_ret (v := .tuple #[.agg zN, .int .i64 91]) (by simp [results, Tryz.results11, go_sem, k0, k1, k2, k3, k4]) rfl ⟨_, rfl, by rw [HP.out]; rfl, hB9.out⟩end Go.Proofs.YtiapkblebbcfbaaGreat.Gl
/- The document's Atom: operation 14. -/
namespace Go.Proofs.YtiapkblebbcfbaaGreat.Gl
open Go Go.RowKit
set_option linter.unusedVariables false
set_option linter.unusedSimpArgs false

set_option maxRecDepth 100000 in
set_option maxHeartbeats 40000000 in
theorem ratom_14 (W : World) (m : Int) (x : ByteArray) (s t : Tm) (v : Value) (w : World) (hv : FmV W (.mk 14 x m [s, t] []) v) (hW : Below W.heap.size W w) (h0 : chk nmB (.mk 14 x m [s, t] []) = 0) (h1 : ¬ ((14 : Int) < 9)) :
    Calls Tryz.prog 11 #[v] w fun e w' => ∃ v', e = .returned v' ∧ RAr w' (atm (.mk 14 x m [s, t] [])) v' ∧ Below w.heap.size w w' := by
  have hwell := fm_right h0
  have hfa := fm_atom hwell.1 h1
  have hs := hwell.2.1 s (List.mem_cons_self ..)
  have ht := hwell.2.1 t (List.mem_cons_of_mem _ (List.mem_cons_self ..))
  have hsz : s.size + t.size ≤ 499 := by have := hwell.2.2; simp only [Tm.sizeL, Fm.sizeL] at this; omega
  have HA : Hid (atm (.mk 14 x m [s, t] []) = match dfS 14 s t with | .er e => .er e | .ok D => finS 14 m D) := (atm_at h0 h1).trans (atmS_eq 14 m s t)
  have HMD := mkHid hfa.2.2
  have CK : Hid (∀ w', Below w.heap.size w w' → Calls Tryz.prog 24 #[v] w' fun e w'' => e = .returned (.int .i64 0) ∧ Below w'.heap.size w' w'') := fun w' h => by
    have := rcheck_at W _ v w' hv (hW.trans (h.mono hW.size))
    rw [h0] at this
    exact this
  obtain ⟨c0, c1, c2, c3, c4, rfl, hr⟩ := hv
  rw [RdF] at hr
  obtain ⟨rfl, rfl, rfl, ⟨hio, him, -⟩, ⟨ao, cap, rfl, hcap, hcm, hk⟩, -⟩ := hr
  obtain ⟨g, of, d0, d1, d2, d3, f0, f1, f2, f3, rfl, q0, q1, q2, q3, hrt, t0, t1, t2, t3, hru, hg⟩ := two_kids hk
  have hcap' : 2 ≤ cap := hcap
  have WS : Hid (∀ y, Below W.heap.size W y → Calls Tryz.prog 17 #[.agg #[d0, d1, d2, d3]] y fun e w' => ∃ v', e = .returned v' ∧ DSum w' (lin s) v' ∧ Below y.heap.size y w') := fun y hy => work_at s hs W (.agg #[d0, d1, d2, d3]) y ⟨_, _, _, _, rfl, hrt⟩ hy (by omega)
  have WT : Hid (∀ y, Below W.heap.size W y → Calls Tryz.prog 17 #[.agg #[f0, f1, f2, f3]] y fun e w' => ∃ v', e = .returned v' ∧ DSum w' (lin t) v' ∧ Below y.heap.size y w') := fun y hy => work_at t ht W (.agg #[f0, f1, f2, f3]) y ⟨_, _, _, _, rfl, hru⟩ hy (by omega)
  have TS : Hid (∀ y : World, Below W.heap.size W y → y.cell? ⟨g, of, none⟩ = some d0 ∧ y.cell? ⟨g, of + 1, none⟩ = some d1 ∧ y.cell? ⟨g, of + 2, none⟩ = some d2 ∧ y.cell? ⟨g, of + 3, none⟩ = some d3) := fun y hy => ⟨(hy.cell (p := ⟨g, of, none⟩) hg).trans q0, (hy.cell (p := ⟨g, of + 1, none⟩) hg).trans q1, (hy.cell (p := ⟨g, of + 2, none⟩) hg).trans q2, (hy.cell (p := ⟨g, of + 3, none⟩) hg).trans q3⟩
  have TU : Hid (∀ y : World, Below W.heap.size W y → y.cell? ⟨g, of + 4, none⟩ = some f0 ∧ y.cell? ⟨g, of + 5, none⟩ = some f1 ∧ y.cell? ⟨g, of + 6, none⟩ = some f2 ∧ y.cell? ⟨g, of + 7, none⟩ = some f3) := fun y hy => ⟨(hy.cell (p := ⟨g, of + 4, none⟩) hg).trans t0, (hy.cell (p := ⟨g, of + 5, none⟩) hg).trans t1, (hy.cell (p := ⟨g, of + 6, none⟩) hg).trans t2, (hy.cell (p := ⟨g, of + 7, none⟩) hg).trans t3⟩
  have HGs : Hid (∀ p, lin s = .ok p → p.good nmB 500) := fun p hp => (lin_good nmB s hs p hp).mono (by omega)
  have HGt : Hid (∀ p, lin t = .ok p → p.good nmB 500) := fun p hp => (lin_good nmB t ht p hp).mono (by omega)
  have HEs : Hid (∀ e, lin s = .er e → e = 90 ∨ e = 91) := lin_er nmB s hs
  have HEt : Hid (∀ e, lin t = .er e → e = 90 ∨ e = 91) := lin_er nmB t ht
  have HGD : Hid (∀ D, dfS 14 s t = .ok D → D.good nmB 1000) := fun D hD => dfS_good hs ht hsz hD
  have HF := frF_new w (.int .i64 14) (.string x) (.int .i64 m) (.slice (some ⟨g, of, none⟩) 2 cap) c4 zN 44
  clear h0 hwell hfa hs ht q0 q1 q2 q3 t0 t1 t2 t3 hrt hru hk
  go_enter Tryz.func11, Tryz.ntmps11
  go_wp2_with (fail)
  generalize (w.alloc (.cells #[.int .i64 14, .string x, .int .i64 m, .slice (some ⟨g, of, none⟩) 2 cap, c4] 41)).alloc (.cells zN 44) = w2 at HF ⊢
  refine (CK.out w2 HF.bel).mono ?_
  rintro e w3 ⟨rfl, hB3⟩
  have HF3 := HF.keep hB3
  obtain ⟨b0, b1, b2, b3, b4⟩ := form5 HF3.box
  have hW3 : Below W.heap.size W w3 := hW.trans (HF3.bel.mono hW.size)
  obtain ⟨p0, p1, p2, p3⟩ := TS.out w3 hW3
  have WS3 := mkHid (WS.out w3 hW3)
  clear CK HF WS TS
  go_wp2_with (fail)
  refine WS3.out.mono ?_
  rintro e w4 ⟨v4, rfl, hL, hB4⟩
  have HF4 := HF3.keep hB4
  clear WS3 b0 b1 b2 b3 b4 p0 p1 p2 p3
  cases hls : lin s with
  | er e =>
    rw [hls] at hL
    have he := HEs.out e hls
    obtain ⟨na, ca, n, c, l, d, ka, rfl, -⟩ := hL
    have hx : ((e : Int) != 0) = true := by rw [bne_iff_ne]; omega
    have HP : Hid (atm (.mk 14 x m [s, t] []) = .er e) := by show _ = _; rw [HA.out]; unfold dfS; rw [hls]
    have HF5 := HF4.keep (bal w4 (.cells (sum4 na ca n c l d ka e) 32))
    have hR5 := rb_new w4 (sum4 na ca n c l d ka e) 32
    clear HGs HGt HEs HEt HGD HA WT TU
    go_wp2_with (fail)
    have hneq : w4.heap.size ≠ w.heap.size + 1 := by have := HF4.size; omega
    generalize w4.alloc (.cells (sum4 na ca n c l d ka e) 32) = w5 at HF5 hR5 ⊢
    obtain ⟨m0, m1, m2, m3⟩ := cells4 hR5
    obtain ⟨r0, s0⟩ := txcell HF5.res 0 _ rfl
    obtain ⟨r1, s1⟩ := txcell HF5.res 1 _ rfl
    obtain ⟨r2, s2⟩ := txcell HF5.res 2 _ rfl
    obtain ⟨r3, s3⟩ := txcell HF5.res 3 _ rfl
    obtain ⟨r4, s4⟩ := txcell HF5.res 4 _ rfl
    have hR9 := (rb_five HF5.res rfl (.int .i64 0) (.slice none 0 0) (.slice none 0 0) (.int .i64 0) (.int .i64 0)).keep (Below.refl _ _).drew
    have hB9 := mkHid (bel_st5n (B := w.heap.size + 1) HF5.bel (by omega) (.int .i64 0) (.slice none 0 0) (.slice none 0 0) (.int .i64 0) (.int .i64 0))
    replace hB9 := mkHid hB9.out.drew
    go_wp2_with (fail)
    have hRq := ((((hR5.other hneq 0 (.int .i64 0)).other hneq 1 (.slice none 0 0)).other hneq 2 (.slice none 0 0)).other hneq 3 (.int .i64 0)).other hneq 4 (.int .i64 0)
    have mq := (cells4 (hRq.keep (Below.refl _ _).drew)).2.2.2
    go_region
    go_wp2_with (fail)
    obtain ⟨k0, -⟩ := txcell hR9 0 _ rfl
    obtain ⟨k1, -⟩ := txcell hR9 1 _ rfl
    obtain ⟨k2, -⟩ := txcell hR9 2 _ rfl
    obtain ⟨k3, -⟩ := txcell hR9 3 _ rfl
    obtain ⟨k4, -⟩ := txcell hR9 4 _ rfl
    exact bodyPost_ret (v := .tuple #[.agg zN, .int .i64 (e : Nat)]) (by simp [results, Tryz.results11, go_sem, k0, k1, k2, k3, k4]) rfl ⟨_, rfl, by rw [HP.out]; rfl, hB9.out⟩
  | ok a =>
    rw [hls] at hL
    have gA := HGs.out a hls
    obtain ⟨na, ca, n, c, l, d, rfl, hN, hZ, hK, hC⟩ := hL
    have hln : n = l := by have := gA.len; rw [hN.eqlen, hZ.eqlen] at this; exact this.symm
    subst hln
    have hB5 := bal w4 (.cells (sum4 na ca n c n d a.k 0) 32)
    have HF5 := HF4.keep hB5
    have hR5 := rb_new w4 (sum4 na ca n c n d a.k 0) 32
    have hW5 : Below W.heap.size W (w4.alloc (.cells (sum4 na ca n c n d a.k 0) 32)) := hW.trans (HF5.bel.mono hW.size)
    obtain ⟨p0, p1, p2, p3⟩ := TU.out _ hW5
    obtain ⟨b0, b1, b2, b3, b4⟩ := form5 HF5.box
    obtain ⟨p0', p1', p2', p3'⟩ := TU.out w4 (hW.trans (HF4.bel.mono hW.size))
    obtain ⟨b0', b1', b2', b3', b4'⟩ := form5 HF4.box
    have WT5 := mkHid (WT.out _ hW5)
    have hN5 := hN.below (Nat.le_refl _) hB5
    have hZ5 := hZ.below (Nat.le_refl _) hB5
    have hnn : n ≤ 500 := by have := gA.few; rw [hN.eqlen] at this; exact this
    have fA := mkHid gA.fit
    have HLs := mkHid hls
    have hs4 := HF4.size
    have hp6 : w4.heap.size < (w4.alloc (.cells (sum4 na ca n c n d a.k 0) 32)).heap.size := by simp
    clear HGs HEs WT TU hN hZ hK hC hls gA
    go_wp2_with (fail)
    generalize w4.heap.size = p6 at hR5 hs4 hp6 ⊢
    generalize w4.alloc (.cells (sum4 na ca n c n d a.k 0) 32) = w5 at hB5 HF5 hR5 hW5 WT5 hN5 hZ5 hp6 p0 p1 p2 p3 b0 b1 b2 b3 b4 ⊢
    clear hB5 hB4 HF4 p0 p1 p2 p3 b0 b1 b2 b3 b4 p0' p1' p2' p3' b0' b1' b2' b3' b4'
    refine WT5.out.mono ?_
    rintro e w6 ⟨v6, rfl, hL6, hB6⟩
    have HF6 := HF5.keep hB6
    have hR6 := hR5.keep hB6
    clear WT5
    cases hlt : lin t with
    | er e =>
      rw [hlt] at hL6
      have he := HEt.out e hlt
      obtain ⟨nb, cb, n', c', l', d', kb, rfl, -⟩ := hL6
      have hx : ((e : Int) != 0) = true := by rw [bne_iff_ne]; omega
      have HP : Hid (atm (.mk 14 x m [s, t] []) = .er e) := by show _ = _; rw [HA.out]; unfold dfS; rw [HLs.out, hlt]
      have HF7 := HF6.keep (bal w6 (.cells (sum4 nb cb n' c' l' d' kb e) 32))
      have hR7 := rb_new w6 (sum4 nb cb n' c' l' d' kb e) 32
      have hneq : w6.heap.size ≠ w.heap.size + 1 := by have := HF6.size; omega
      clear HGt HEt HGD HA HLs hN5 hZ5 fA hR5 hR6
      go_wp2_with (fail)
      generalize w6.alloc (.cells (sum4 nb cb n' c' l' d' kb e) 32) = w7 at HF7 hR7 ⊢
      obtain ⟨m0, m1, m2, m3⟩ := cells4 hR7
      obtain ⟨r0, s0⟩ := txcell HF7.res 0 _ rfl
      obtain ⟨r1, s1⟩ := txcell HF7.res 1 _ rfl
      obtain ⟨r2, s2⟩ := txcell HF7.res 2 _ rfl
      obtain ⟨r3, s3⟩ := txcell HF7.res 3 _ rfl
      obtain ⟨r4, s4⟩ := txcell HF7.res 4 _ rfl
      have hR9 := (rb_five HF7.res rfl (.int .i64 0) (.slice none 0 0) (.slice none 0 0) (.int .i64 0) (.int .i64 0)).keep (Below.refl _ _).drew
      have hB9 := mkHid (bel_st5n (B := w.heap.size + 1) HF7.bel (by omega) (.int .i64 0) (.slice none 0 0) (.slice none 0 0) (.int .i64 0) (.int .i64 0))
      replace hB9 := mkHid hB9.out.drew
      go_wp2_with (fail)
      have hRq := ((((hR7.other hneq 0 (.int .i64 0)).other hneq 1 (.slice none 0 0)).other hneq 2 (.slice none 0 0)).other hneq 3 (.int .i64 0)).other hneq 4 (.int .i64 0)
      have mq := (cells4 (hRq.keep (Below.refl _ _).drew)).2.2.2
      go_region
      go_wp2_with (fail)
      obtain ⟨k0, -⟩ := txcell hR9 0 _ rfl
      obtain ⟨k1, -⟩ := txcell hR9 1 _ rfl
      obtain ⟨k2, -⟩ := txcell hR9 2 _ rfl
      obtain ⟨k3, -⟩ := txcell hR9 3 _ rfl
      obtain ⟨k4, -⟩ := txcell hR9 4 _ rfl
      exact bodyPost_ret (v := .tuple #[.agg zN, .int .i64 (e : Nat)]) (by simp [results, Tryz.results11, go_sem, k0, k1, k2, k3, k4]) rfl ⟨_, rfl, by rw [HP.out]; rfl, hB9.out⟩
    | ok b =>
      rw [hlt] at hL6
      have gB := HGt.out b hlt
      obtain ⟨nb, cb, n', c', l', d', rfl, hM, hY, -, -⟩ := hL6
      have hln' : n' = l' := by have := gB.len; rw [hM.eqlen, hY.eqlen] at this; exact this.symm
      subst hln'
      have hB7 := bal w6 (.cells (sum4 nb cb n' c' n' d' b.k 0) 32)
      have HF7 := HF6.keep hB7
      have hR7 := rb_new w6 (sum4 nb cb n' c' n' d' b.k 0) 32
      have hR67 := hR6.keep hB7
      have hN7 := hN5.below (Nat.le_refl _) (bt2 hB6 hB7)
      have hZ7 := hZ5.below (Nat.le_refl _) (bt2 hB6 hB7)
      have hM7 := hM.below (Nat.le_refl _) hB7
      have hY7 := hY.below (Nat.le_refl _) hB7
      have hnn' : n' ≤ 500 := by have := gB.few; rw [hM.eqlen] at this; exact this
      have hs6 := hB6.size
      have hp7 : w6.heap.size < (w6.alloc (.cells (sum4 nb cb n' c' n' d' b.k 0) 32)).heap.size := by simp
      have HD : Hid (dfS 14 s t = mkS (difS 14 a b)) := by show _ = _; unfold dfS; rw [HLs.out, hlt]
      have fB := mkHid gB.fit
      obtain ⟨a0, a1, a2, a3⟩ := cells4 hR67
      obtain ⟨b0, b1, b2, b3⟩ := cells4 hR7
      clear HGt HEt HLs hN5 hZ5 hM hY hR5 hR6 gB hlt
      go_wp2_with (fail)
      have hp67 : p6 < w6.heap.size := by omega
      generalize w6.heap.size = p7 at hR7 hp7 hp67 b0 b1 b2 b3 ⊢
      generalize w6.alloc (.cells (sum4 nb cb n' c' n' d' b.k 0) 32) = w7 at HF7 hR7 hR67 hN7 hZ7 hM7 hY7 hp7 a0 a1 a2 a3 b0 b1 b2 b3 hB7 ⊢
      have P1 := mkHid (rplus_at a b na ca nb cb n c n d n' c' n' d' true w7 hN7 hZ7 hM7 hY7 (by omega) (by omega) fA.out fB.out rfl rfl)
      clear hB6 hB7 HF5 HF6 hW5 a0 a1 a2 a3 b0 b1 b2 b3
      refine P1.out.mono ?_
      rintro e w8 ⟨v8, rfl, hS8, hB8⟩
      obtain ⟨n8, c8, l8, g8, m8, d8, k8, e8, rfl⟩ := hS8.sum.shape
      have HF8 := HF7.keep (bt2 hB8 (bal w8 (.cells (sum4 n8 c8 l8 g8 m8 d8 k8 e8) 32)))
      have hR68 := hR67.keep (bt2 hB8 (bal w8 (.cells (sum4 n8 c8 l8 g8 m8 d8 k8 e8) 32)))
      have hR78 := hR7.keep (bt2 hB8 (bal w8 (.cells (sum4 n8 c8 l8 g8 m8 d8 k8 e8) 32)))
      have hR8 := rb_new w8 (sum4 n8 c8 l8 g8 m8 d8 k8 e8) 32
      clear P1
      have HBD := mkHid (bd_of (w := w) (m := m) HA.out HD.out)
      have HDG : Hid (∀ D, mkS (difS 14 a b) = .ok D → D.good nmB 1000) := fun D h => HGD.out D (HD.out.trans h)
      have hs8 := HF8.size
      have hB78 := bt2 hB8 (bal w8 (.cells (sum4 n8 c8 l8 g8 m8 d8 k8 e8) 32))
      have hS9 := (hS8.below (bal w8 (.cells (sum4 n8 c8 l8 g8 m8 d8 k8 e8) 32))).base (B' := w.heap.size) (by have := HF7.size; omega)
      have hp8 : w8.heap.size < (w8.alloc (.cells (sum4 n8 c8 l8 g8 m8 d8 k8 e8) 32)).heap.size := by simp
      have hq8 : w.heap.size + 1 < w8.heap.size := by have := HF7.size; have := hB8.size; omega
      have hp78 : p7 < w8.heap.size := Nat.lt_of_lt_of_le hp7 hB8.size
      have hN9 := hN7.below (Nat.le_refl _) hB78
      have hZ9 := hZ7.below (Nat.le_refl _) hB78
      have hM9 := hM7.below (Nat.le_refl _) hB78
      have hY9 := hY7.below (Nat.le_refl _) hB78
      obtain ⟨s0, s1, s2, s3⟩ := cells4 hR8
      obtain ⟨a0, a1, a2, a3⟩ := cells4 hR68
      obtain ⟨b0, b1, b2, b3⟩ := cells4 hR78
      clear HGD HA HD hS8 hB8 hB78 hN7 hZ7 hM7 hY7 hR7 hR67
      have hpS := hp8
      have HFS := HF8
      have hRS := hR8
      have hDS : DSumO w.heap.size _ (mkS (difS 14 a b)) (.agg (sum4 n8 c8 l8 g8 m8 d8 k8 e8)) := hS9
      clear hN9 hZ9 hM9 hY9 hS9 hR68 hR78 a0 a1 a2 a3 b0 b1 b2 b3 fA fB HF8 hR8 hp8
      have hkI : I64 k8 := by
        cases hd : mkS (difS 14 a b) with
        | er e => rw [hd] at hDS; obtain ⟨_, _, _, _, _, _, _, h1, _, h2⟩ := hDS; simp only [Value.agg.injEq] at h1; cases h1; exact h2
        | ok D => rw [hd] at hDS; obtain ⟨_, _, _, _, _, _, h1, _⟩ := hDS; simp only [Value.agg.injEq] at h1; cases h1; exact Sm.fits.k (HDG.out D hd).fit
      have SB : Hid (∀ y : World, Calls Tryz.prog 26 #[.int .i64 0, .int .i64 k8] y fun e w' => e = .returned (.tuple #[.int .i64 (Wd.nOf (-k8)), .int .i64 (Wd.eOf (-k8))]) ∧ Below y.heap.size y w') := fun y => rsub0 k8 y hkI
      go_wp2_with (fail)
      generalize w8.heap.size = p8 at hRS hpS hq8 hp78 s0 s1 s2 s3 ⊢
      generalize w8.alloc (.cells (sum4 n8 c8 l8 g8 m8 d8 k8 e8) 32) = wS at hDS HFS hRS hpS s0 s1 s2 s3 hs8 ⊢
      clear s0 s1 s2 s3
      refine (SB.out wS).mono ?_
      rintro e w11 ⟨rfl, hB11⟩
      have HF11 := HFS.keep hB11
      have hR11 := hRS.keep hB11
      have hD11 := hDS.below hB11
      clear HFS hRS hDS hB11 SB hpS
      go_wp2_with (fail)
      refine (note_any p8 (Wd.nOf (-k8)) (Wd.eOf (-k8)) n8 c8 l8 g8 m8 d8 k8 e8 w11 hR11).mono ?_
      rintro en w12 ⟨rfl, hR12, hX12⟩
      have HF12 := HF11.bux hX12 hq8
      have hD12 := hD11.bux hR11 hX12
      clear HF11 hD11 hR11 hX12
      have hneq : p8 ≠ w.heap.size + 1 := by omega
      -- how it came out
      have OUT : ((if Wd.eOf (-k8) = 0 then e8 else 91) = 91 ∧ atm (.mk 14 x m [s, t] []) = .er 91) ∨ ∃ D, mkS (difS 14 a b) = .ok D ∧ (if Wd.eOf (-k8) = 0 then e8 else 91) = 0 ∧ (Wd.nOf (-k8)) = bdOf 14 D.k ∧ in64 (-D.k) = true ∧ in64 (bdOf 14 D.k) = true := by
        cases hd : mkS (difS 14 a b) with
        | er e0 =>
          rw [hd] at hD12
          obtain ⟨_, _, _, _, _, _, _, h1, h2, _⟩ := hD12
          simp only [Value.agg.injEq] at h1
          cases h1
          have he0 := mkS_er hd
          subst he0
          left
          exact ⟨by simp, HBD.out.no _ hd⟩
        | ok D =>
          rw [hd] at hD12
          obtain ⟨_, _, _, _, _, _, h1, _⟩ := hD12
          simp only [Value.agg.injEq] at h1
          cases h1
          cases c1 : in64 (-D.k) with
          | false =>
            left
            have h9 : ¬ Wd.eOf (-D.k) = 0 := fun h => by rw [eOf_zero.1 h] at c1; cases c1
            exact ⟨by simp [h9], HBD.out.neg D hd c1⟩
          | true =>
            have h9 : Wd.eOf (-D.k) = 0 := eOf_zero.2 c1
            have hbo : bdOf 14 D.k = -D.k := by unfold bdOf; simp
            right
            exact ⟨D, rfl, by simp [h9], by rw [nOf_in c1, hbo], c1, by rw [hbo]; exact c1⟩
      generalize (if Wd.eOf (-k8) = 0 then e8 else 91) = ee at OUT hR12
      generalize (Wd.nOf (-k8)) = bd at OUT ⊢
      rcases OUT with ⟨rfl, hP⟩ | ⟨D, hd, rfl, rfl, c1, c2⟩
      · have HP := mkHid hP
        obtain ⟨m0, m1, m2, m3⟩ := cells4 hR12
        clear HBD HDG hP
        obtain ⟨r0, s0⟩ := txcell HF12.res 0 _ rfl
        obtain ⟨r1, s1⟩ := txcell HF12.res 1 _ rfl
        obtain ⟨r2, s2⟩ := txcell HF12.res 2 _ rfl
        obtain ⟨r3, s3⟩ := txcell HF12.res 3 _ rfl
        obtain ⟨r4, s4⟩ := txcell HF12.res 4 _ rfl
        have hR9 := (rb_five HF12.res rfl (.int .i64 0) (.slice none 0 0) (.slice none 0 0) (.int .i64 0) (.int .i64 0)).keep (Below.refl _ _).drew
        have hB9 := mkHid (bel_st5n (B := w.heap.size + 1) HF12.bel (by omega) (.int .i64 0) (.slice none 0 0) (.slice none 0 0) (.int .i64 0) (.int .i64 0))
        replace hB9 := mkHid hB9.out.drew
        go_wp2_with (fail)
        have hRq := ((((hR12.other hneq 0 (.int .i64 0)).other hneq 1 (.slice none 0 0)).other hneq 2 (.slice none 0 0)).other hneq 3 (.int .i64 0)).other hneq 4 (.int .i64 0)
        have mq := (cells4 (hRq.keep (Below.refl _ _).drew)).2.2.2
        go_region
        go_wp2_with (fail)
        obtain ⟨k0, -⟩ := txcell hR9 0 _ rfl
        obtain ⟨k1, -⟩ := txcell hR9 1 _ rfl
        obtain ⟨k2, -⟩ := txcell hR9 2 _ rfl
        obtain ⟨k3, -⟩ := txcell hR9 3 _ rfl
        obtain ⟨k4, -⟩ := txcell hR9 4 _ rfl
        exact bodyPost_ret (v := .tuple #[.agg zN, .int .i64 91]) (by simp [results, Tryz.results11, go_sem, k0, k1, k2, k3, k4]) rfl ⟨_, rfl, by rw [HP.out]; rfl, hB9.out⟩
      · have gD := HDG.out D hd
        have HBT := mkHid (HBD.out.loose D hd c1 c2)
        have HBG := mkHid (HBD.out.good D hd c1 c2)
        have hbI : I64 (bdOf 14 D.k) := (in64_iff _).1 c2
        have hbx : ∃ bd, bdOf 14 D.k = bd := ⟨_, rfl⟩
        rw [hd] at hD12
        obtain ⟨n1, c1', l1, g1, m1', d1', hv1, hN1, hK1, hO1⟩ := hD12
        simp only [Value.agg.injEq] at hv1
        cases hv1
        obtain ⟨m0, m1, m2, m3⟩ := cells4 hR12
        obtain ⟨b0, b1, b2, b3, b4⟩ := form5 HF12.box
        have hZ1 := rdz_of_own2 hO1
        have hlen : D.cs.length = D.ns.length := gD.len
        have hnl : l8 = D.ns.length := hN1.eqlen.symm
        have hml : m8 = D.cs.length := hZ1.eqlen.symm
        have hfew := gD.few
        have hmm : m8 ≤ 1000 := by omega
        have hcl : D.cs.length ≤ 1000 := by omega
        have hIz : ∀ z ∈ D.cs, I64 z := fun z hz => Sm.fits.c gD.fit z hz
        clear HBD HDG c1 c2 hd hkI hbx hnl hml hlen
        have hb2 := mkHid hbI
        generalize hbe : bdOf 14 D.k = bd at hb2 hbI ⊢
        have hT : Hid (∀ a4 c4 (w4 : World), RdZ w4 a4 (1 + m8) c4 (bd :: D.cs) → ∃ xx er : Int, ((er = 0 ∧ tight (nrOf 14 m D)) ∨ (er ≠ 0 ∧ ¬ tight (nrOf 14 m D))) ∧ Calls Tryz.prog 29 #[.slice a4 (1 + m8) c4] w4 fun e w' => e = .returned (.tuple #[.int .i64 xx, .int .i64 er]) ∧ Below w4.heap.size w4 w') := by
          intro a4 c4 w4 hR4
          have hrow := row_of_rdz hR4 (by
            intro z hz
            rcases List.mem_cons.1 hz with rfl | hz
            · exact hb2.out
            · exact hIz z hz) (by unfold maxLen; omega)
          refine ⟨_, _, ?_, Chk.ref_total _ _ w4 hrow (by rw [List.length_cons]; omega)⟩
          have e : Chk.tot (bd :: D.cs) = bd.natAbs + Chk.tot D.cs := rfl
          have e2 : nrOf 14 m D = ⟨kdOf 14, D.ns, D.cs, bd, m⟩ := by rw [← hbe]; unfold nrOf; rw [if_neg (by decide)]
          rw [e2]
          unfold tight tot Chk.errT
          rw [e]
          by_cases ht : bd.natAbs + Chk.tot D.cs ≤ 9223372036854775807
          · left; exact ⟨if_pos ht, by show Chk.tot D.cs + bd.natAbs ≤ _; omega⟩
          · right; rw [if_neg ht]; exact ⟨by decide, by show ¬ (Chk.tot D.cs + bd.natAbs ≤ _); omega⟩
        have HNR : Hid (nrOf 14 m D = ⟨1, D.ns, D.cs, bd, m⟩) := by
          show _ = _
          rw [← hbe]; unfold nrOf; rw [if_neg (by decide)]; rfl
        have hSh : Short D.ns := fun y hy => by have := name_small ((nmB_iff y).1 (gD.nms y hy)); omega
        have q1 : (w12.alloc (.cells #[.int .i64 bd] 2)).cell? ⟨p8, 1, none⟩ = some (.slice c8 m8 d8) := (cells4 (hR12.keep (bal w12 _))).2.1
        clear hbe gD
        go_wp2_with (at_builtin; refine wp_oneQ w12 rfl (.tmp 126) (.tmp 128) rfl bd rfl c8 m8 d8 D.cs (by go_simp) hZ1 (by omega) ?_; intro a4 c4' w13 hR4 hB13)
        obtain ⟨xx, er, hE, hC⟩ := hT.out a4 c4' w13 hR4
        refine hC.mono ?_
        rintro e w14 ⟨rfl, hB14⟩
        have hB24 := bt2 hB13 hB14
        have HF14 := HF12.keep hB24
        have hR14 := hR12.keep hB24
        have hN14 := hN1.below (Nat.le_refl _) hB24
        have hZ14 := hZ1.below (Nat.le_refl _) hB24
        have hK14 := hK1.below hB24
        have hC14 := (bk_of_owns hO1).below hB24
        clear m0 m1 m2 m3 b0 b1 b2 b3 b4 q1 hT hR4 hC HF12 hR12 hN1 hZ1 hK1 hO1 hB13 hB14 hB24
        rcases hE with ⟨rfl, ht⟩ | ⟨hne, ht⟩
        · have HP := mkHid (HBG.out ht)
          obtain ⟨m0, m1, m2, m3⟩ := cells4 hR14
          obtain ⟨b0, b1, b2, b3, b4⟩ := form5 HF14.box
          obtain ⟨r0, s0⟩ := txcell HF14.res 0 _ rfl
          obtain ⟨r1, s1⟩ := txcell HF14.res 1 _ rfl
          obtain ⟨r2, s2⟩ := txcell HF14.res 2 _ rfl
          obtain ⟨r3, s3⟩ := txcell HF14.res 3 _ rfl
          obtain ⟨r4, s4⟩ := txcell HF14.res 4 _ rfl
          have hR9 := rb_five HF14.res rfl (.int .i64 1) (.slice n8 l8 g8) (.slice c8 m8 d8) (.int .i64 bd) (.int .i64 m)
          have hB9 := mkHid (bel_st5n (B := w.heap.size + 1) HF14.bel (by omega) (.int .i64 1) (.slice n8 l8 g8) (.slice c8 m8 d8) (.int .i64 bd) (.int .i64 m))
          have hM9 := mkHid (NrM.five (N := ⟨1, D.ns, D.cs, bd, m⟩) ⟨hN14, hZ14, hSh, hIz, hb2.out, by unfold maxLen; omega⟩ (hK14.ne HF14.res (by decide)) (hC14.ne HF14.res (by decide)) (.int .i64 1) (.slice n8 l8 g8) (.slice c8 m8 d8) (.int .i64 bd) (.int .i64 m))
          clear HBT HBG ht hN14 hZ14 hK14 hC14
          go_wp2_with (fail)
          obtain ⟨k0, -⟩ := txcell hR9 0 _ rfl
          obtain ⟨k1, -⟩ := txcell hR9 1 _ rfl
          obtain ⟨k2, -⟩ := txcell hR9 2 _ rfl
          obtain ⟨k3, -⟩ := txcell hR9 3 _ rfl
          obtain ⟨k4, -⟩ := txcell hR9 4 _ rfl
          refine bodyPost_ret (v := .tuple #[nrV 1 bd m n8 c8 l8 g8 m8 d8, .int .i64 0]) (by simp [results, Tryz.results11, go_sem, k0, k1, k2, k3, k4]) rfl ⟨_, rfl, ?_, hB9.out⟩
          rw [HP.out, HNR.out]
          exact ⟨_, _, _, _, _, _, rfl, hM9.out⟩
        · have HP := mkHid (HBT.out ht)
          have hx : (er != 0) = true := by rw [bne_iff_ne]; exact hne
          clear HBT HBG ht hne hN14 hZ14 hK14 hC14
          obtain ⟨r0, s0⟩ := txcell HF14.res 0 _ rfl
          obtain ⟨r1, s1⟩ := txcell HF14.res 1 _ rfl
          obtain ⟨r2, s2⟩ := txcell HF14.res 2 _ rfl
          obtain ⟨r3, s3⟩ := txcell HF14.res 3 _ rfl
          obtain ⟨r4, s4⟩ := txcell HF14.res 4 _ rfl
          have hR9 := rb_five HF14.res rfl (.int .i64 0) (.slice none 0 0) (.slice none 0 0) (.int .i64 0) (.int .i64 0)
          have hB9 := mkHid (bel_st5n (B := w.heap.size + 1) HF14.bel (by omega) (.int .i64 0) (.slice none 0 0) (.slice none 0 0) (.int .i64 0) (.int .i64 0))
          go_wp2_with (fail)
          obtain ⟨k0, -⟩ := txcell hR9 0 _ rfl
          obtain ⟨k1, -⟩ := txcell hR9 1 _ rfl
          obtain ⟨k2, -⟩ := txcell hR9 2 _ rfl
          obtain ⟨k3, -⟩ := txcell hR9 3 _ rfl
          obtain ⟨k4, -⟩ := txcell hR9 4 _ rfl
          exact bodyPost_ret (v := .tuple #[.agg zN, .int .i64 91]) (by simp [results, Tryz.results11, go_sem, k0, k1, k2, k3, k4]) rfl ⟨_, rfl, by rw [HP.out]; rfl, hB9.out⟩end Go.Proofs.YtiapkblebbcfbaaGreat.Gl
/- The document's Atom: operation 15. -/
namespace Go.Proofs.YtiapkblebbcfbaaGreat.Gl
open Go Go.RowKit
set_option linter.unusedVariables false
set_option linter.unusedSimpArgs false

theorem refrest_at (a m : Int) (w : World) (ha : I64 a) (hm : 1 ≤ m) (hm' : m ≤ 9223372036854775807) :
    Calls Tryz.prog 28 #[.int .i64 a, .int .i64 m] w fun e w' => e = .returned (.tuple #[.int .i64 (a % m), .int .i64 0]) ∧ Below w.heap.size w w' := by
  obtain ⟨q, hq, h1, h2, h3, h4, h5⟩ := Chk.quot_facts a m ha.1 ha.2 hm hm'
  exact Chk.ref_rest a m (a % m) q w ha.1 ha.2 hm hm' (mkHid hq) h1 h2 (mkHid h3) h4 h5
theorem gz_of {w : World} {B m d : Nat} {c : Option Addr} {xs : List Value} (h : w.ownsRow B 2 1 (.slice c m d) m xs) : m = 0 ∨ ∃ gz cur, c = some ⟨gz, 0, none⟩ ∧ Rb w gz cur 2 := by
  rcases h.2 with h2 | ⟨g, cap, cur, e, hg, h3, -⟩
  · left
    have := h2.1
    simp_all
  · cases e
    exact .inr ⟨g, cur, rfl, h3⟩
theorem gz_low {w : World} {B m d gz : Nat} {c : Option Addr} {xs : List Value} (h : w.ownsRow B 2 1 (.slice c m d) m xs) (hc : c = some ⟨gz, 0, none⟩) : B ≤ gz := by
  subst hc
  exact (h.lt gz rfl).1
set_option maxRecDepth 100000 in
set_option maxHeartbeats 40000000 in
theorem ratom_15 (W : World) (m : Int) (x : ByteArray) (s t : Tm) (v : Value) (w : World) (hv : FmV W (.mk 15 x m [s, t] []) v) (hW : Below W.heap.size W w) (h0 : chk nmB (.mk 15 x m [s, t] []) = 0) (h1 : ¬ ((15 : Int) < 9)) :
    Calls Tryz.prog 11 #[v] w fun e w' => ∃ v', e = .returned v' ∧ RAr w' (atm (.mk 15 x m [s, t] [])) v' ∧ Below w.heap.size w w' := by
  have hwell := fm_right h0
  have hfa := fm_atom hwell.1 h1
  have hs := hwell.2.1 s (List.mem_cons_self ..)
  have ht := hwell.2.1 t (List.mem_cons_of_mem _ (List.mem_cons_self ..))
  have hsz : s.size + t.size ≤ 499 := by have := hwell.2.2; simp only [Tm.sizeL, Fm.sizeL] at this; omega
  have HA : Hid (atm (.mk 15 x m [s, t] []) = match dfS 15 s t with | .er e => .er e | .ok D => finS 15 m D) := (atm_at h0 h1).trans (atmS_eq 15 m s t)
  have HMD := mkHid hfa.2.2
  have CK : Hid (∀ w', Below w.heap.size w w' → Calls Tryz.prog 24 #[v] w' fun e w'' => e = .returned (.int .i64 0) ∧ Below w'.heap.size w' w'') := fun w' h => by
    have := rcheck_at W _ v w' hv (hW.trans (h.mono hW.size))
    rw [h0] at this
    exact this
  obtain ⟨c0, c1, c2, c3, c4, rfl, hr⟩ := hv
  rw [RdF] at hr
  obtain ⟨rfl, rfl, rfl, ⟨hio, him, -⟩, ⟨ao, cap, rfl, hcap, hcm, hk⟩, -⟩ := hr
  obtain ⟨g, of, d0, d1, d2, d3, f0, f1, f2, f3, rfl, q0, q1, q2, q3, hrt, t0, t1, t2, t3, hru, hg⟩ := two_kids hk
  have hcap' : 2 ≤ cap := hcap
  have WS : Hid (∀ y, Below W.heap.size W y → Calls Tryz.prog 17 #[.agg #[d0, d1, d2, d3]] y fun e w' => ∃ v', e = .returned v' ∧ DSum w' (lin s) v' ∧ Below y.heap.size y w') := fun y hy => work_at s hs W (.agg #[d0, d1, d2, d3]) y ⟨_, _, _, _, rfl, hrt⟩ hy (by omega)
  have WT : Hid (∀ y, Below W.heap.size W y → Calls Tryz.prog 17 #[.agg #[f0, f1, f2, f3]] y fun e w' => ∃ v', e = .returned v' ∧ DSum w' (lin t) v' ∧ Below y.heap.size y w') := fun y hy => work_at t ht W (.agg #[f0, f1, f2, f3]) y ⟨_, _, _, _, rfl, hru⟩ hy (by omega)
  have TS : Hid (∀ y : World, Below W.heap.size W y → y.cell? ⟨g, of, none⟩ = some d0 ∧ y.cell? ⟨g, of + 1, none⟩ = some d1 ∧ y.cell? ⟨g, of + 2, none⟩ = some d2 ∧ y.cell? ⟨g, of + 3, none⟩ = some d3) := fun y hy => ⟨(hy.cell (p := ⟨g, of, none⟩) hg).trans q0, (hy.cell (p := ⟨g, of + 1, none⟩) hg).trans q1, (hy.cell (p := ⟨g, of + 2, none⟩) hg).trans q2, (hy.cell (p := ⟨g, of + 3, none⟩) hg).trans q3⟩
  have TU : Hid (∀ y : World, Below W.heap.size W y → y.cell? ⟨g, of + 4, none⟩ = some f0 ∧ y.cell? ⟨g, of + 5, none⟩ = some f1 ∧ y.cell? ⟨g, of + 6, none⟩ = some f2 ∧ y.cell? ⟨g, of + 7, none⟩ = some f3) := fun y hy => ⟨(hy.cell (p := ⟨g, of + 4, none⟩) hg).trans t0, (hy.cell (p := ⟨g, of + 5, none⟩) hg).trans t1, (hy.cell (p := ⟨g, of + 6, none⟩) hg).trans t2, (hy.cell (p := ⟨g, of + 7, none⟩) hg).trans t3⟩
  have HGs : Hid (∀ p, lin s = .ok p → p.good nmB 500) := fun p hp => (lin_good nmB s hs p hp).mono (by omega)
  have HGt : Hid (∀ p, lin t = .ok p → p.good nmB 500) := fun p hp => (lin_good nmB t ht p hp).mono (by omega)
  have HEs : Hid (∀ e, lin s = .er e → e = 90 ∨ e = 91) := lin_er nmB s hs
  have HEt : Hid (∀ e, lin t = .er e → e = 90 ∨ e = 91) := lin_er nmB t ht
  have HGD : Hid (∀ D, dfS 15 s t = .ok D → D.good nmB 1000) := fun D hD => dfS_good hs ht hsz hD
  have HF := frF_new w (.int .i64 15) (.string x) (.int .i64 m) (.slice (some ⟨g, of, none⟩) 2 cap) c4 zN 44
  clear h0 hwell hfa hs ht q0 q1 q2 q3 t0 t1 t2 t3 hrt hru hk
  go_enter Tryz.func11, Tryz.ntmps11
  go_wp2_with (fail)
  generalize (w.alloc (.cells #[.int .i64 15, .string x, .int .i64 m, .slice (some ⟨g, of, none⟩) 2 cap, c4] 41)).alloc (.cells zN 44) = w2 at HF ⊢
  refine (CK.out w2 HF.bel).mono ?_
  rintro e w3 ⟨rfl, hB3⟩
  have HF3 := HF.keep hB3
  obtain ⟨b0, b1, b2, b3, b4⟩ := form5 HF3.box
  have hW3 : Below W.heap.size W w3 := hW.trans (HF3.bel.mono hW.size)
  obtain ⟨p0, p1, p2, p3⟩ := TS.out w3 hW3
  have WS3 := mkHid (WS.out w3 hW3)
  clear CK HF WS TS
  go_wp2_with (fail)
  refine WS3.out.mono ?_
  rintro e w4 ⟨v4, rfl, hL, hB4⟩
  have HF4 := HF3.keep hB4
  clear WS3 b0 b1 b2 b3 b4 p0 p1 p2 p3
  cases hls : lin s with
  | er e =>
    rw [hls] at hL
    have he := HEs.out e hls
    obtain ⟨na, ca, n, c, l, d, ka, rfl, -⟩ := hL
    have hx : ((e : Int) != 0) = true := by rw [bne_iff_ne]; omega
    have HP : Hid (atm (.mk 15 x m [s, t] []) = .er e) := by show _ = _; rw [HA.out]; unfold dfS; rw [hls]
    have HF5 := HF4.keep (bal w4 (.cells (sum4 na ca n c l d ka e) 32))
    have hR5 := rb_new w4 (sum4 na ca n c l d ka e) 32
    clear HGs HGt HEs HEt HGD HA WT TU
    go_wp2_with (fail)
    have hneq : w4.heap.size ≠ w.heap.size + 1 := by have := HF4.size; omega
    generalize w4.alloc (.cells (sum4 na ca n c l d ka e) 32) = w5 at HF5 hR5 ⊢
    obtain ⟨m0, m1, m2, m3⟩ := cells4 hR5
    obtain ⟨r0, s0⟩ := txcell HF5.res 0 _ rfl
    obtain ⟨r1, s1⟩ := txcell HF5.res 1 _ rfl
    obtain ⟨r2, s2⟩ := txcell HF5.res 2 _ rfl
    obtain ⟨r3, s3⟩ := txcell HF5.res 3 _ rfl
    obtain ⟨r4, s4⟩ := txcell HF5.res 4 _ rfl
    have hR9 := (rb_five HF5.res rfl (.int .i64 0) (.slice none 0 0) (.slice none 0 0) (.int .i64 0) (.int .i64 0)).keep (Below.refl _ _).drew
    have hB9 := mkHid (bel_st5n (B := w.heap.size + 1) HF5.bel (by omega) (.int .i64 0) (.slice none 0 0) (.slice none 0 0) (.int .i64 0) (.int .i64 0))
    replace hB9 := mkHid hB9.out.drew
    go_wp2_with (fail)
    have hRq := ((((hR5.other hneq 0 (.int .i64 0)).other hneq 1 (.slice none 0 0)).other hneq 2 (.slice none 0 0)).other hneq 3 (.int .i64 0)).other hneq 4 (.int .i64 0)
    have mq := (cells4 (hRq.keep (Below.refl _ _).drew)).2.2.2
    go_region
    go_wp2_with (fail)
    obtain ⟨k0, -⟩ := txcell hR9 0 _ rfl
    obtain ⟨k1, -⟩ := txcell hR9 1 _ rfl
    obtain ⟨k2, -⟩ := txcell hR9 2 _ rfl
    obtain ⟨k3, -⟩ := txcell hR9 3 _ rfl
    obtain ⟨k4, -⟩ := txcell hR9 4 _ rfl
    exact bodyPost_ret (v := .tuple #[.agg zN, .int .i64 (e : Nat)]) (by simp [results, Tryz.results11, go_sem, k0, k1, k2, k3, k4]) rfl ⟨_, rfl, by rw [HP.out]; rfl, hB9.out⟩
  | ok a =>
    rw [hls] at hL
    have gA := HGs.out a hls
    obtain ⟨na, ca, n, c, l, d, rfl, hN, hZ, hK, hC⟩ := hL
    have hln : n = l := by have := gA.len; rw [hN.eqlen, hZ.eqlen] at this; exact this.symm
    subst hln
    have hB5 := bal w4 (.cells (sum4 na ca n c n d a.k 0) 32)
    have HF5 := HF4.keep hB5
    have hR5 := rb_new w4 (sum4 na ca n c n d a.k 0) 32
    have hW5 : Below W.heap.size W (w4.alloc (.cells (sum4 na ca n c n d a.k 0) 32)) := hW.trans (HF5.bel.mono hW.size)
    obtain ⟨p0, p1, p2, p3⟩ := TU.out _ hW5
    obtain ⟨b0, b1, b2, b3, b4⟩ := form5 HF5.box
    obtain ⟨p0', p1', p2', p3'⟩ := TU.out w4 (hW.trans (HF4.bel.mono hW.size))
    obtain ⟨b0', b1', b2', b3', b4'⟩ := form5 HF4.box
    have WT5 := mkHid (WT.out _ hW5)
    have hN5 := hN.below (Nat.le_refl _) hB5
    have hZ5 := hZ.below (Nat.le_refl _) hB5
    have hnn : n ≤ 500 := by have := gA.few; rw [hN.eqlen] at this; exact this
    have fA := mkHid gA.fit
    have HLs := mkHid hls
    have hs4 := HF4.size
    have hp6 : w4.heap.size < (w4.alloc (.cells (sum4 na ca n c n d a.k 0) 32)).heap.size := by simp
    clear HGs HEs WT TU hN hZ hK hC hls gA
    go_wp2_with (fail)
    generalize w4.heap.size = p6 at hR5 hs4 hp6 ⊢
    generalize w4.alloc (.cells (sum4 na ca n c n d a.k 0) 32) = w5 at hB5 HF5 hR5 hW5 WT5 hN5 hZ5 hp6 p0 p1 p2 p3 b0 b1 b2 b3 b4 ⊢
    clear hB5 hB4 HF4 p0 p1 p2 p3 b0 b1 b2 b3 b4 p0' p1' p2' p3' b0' b1' b2' b3' b4'
    refine WT5.out.mono ?_
    rintro e w6 ⟨v6, rfl, hL6, hB6⟩
    have HF6 := HF5.keep hB6
    have hR6 := hR5.keep hB6
    clear WT5
    cases hlt : lin t with
    | er e =>
      rw [hlt] at hL6
      have he := HEt.out e hlt
      obtain ⟨nb, cb, n', c', l', d', kb, rfl, -⟩ := hL6
      have hx : ((e : Int) != 0) = true := by rw [bne_iff_ne]; omega
      have HP : Hid (atm (.mk 15 x m [s, t] []) = .er e) := by show _ = _; rw [HA.out]; unfold dfS; rw [HLs.out, hlt]
      have HF7 := HF6.keep (bal w6 (.cells (sum4 nb cb n' c' l' d' kb e) 32))
      have hR7 := rb_new w6 (sum4 nb cb n' c' l' d' kb e) 32
      have hneq : w6.heap.size ≠ w.heap.size + 1 := by have := HF6.size; omega
      clear HGt HEt HGD HA HLs hN5 hZ5 fA hR5 hR6
      go_wp2_with (fail)
      generalize w6.alloc (.cells (sum4 nb cb n' c' l' d' kb e) 32) = w7 at HF7 hR7 ⊢
      obtain ⟨m0, m1, m2, m3⟩ := cells4 hR7
      obtain ⟨r0, s0⟩ := txcell HF7.res 0 _ rfl
      obtain ⟨r1, s1⟩ := txcell HF7.res 1 _ rfl
      obtain ⟨r2, s2⟩ := txcell HF7.res 2 _ rfl
      obtain ⟨r3, s3⟩ := txcell HF7.res 3 _ rfl
      obtain ⟨r4, s4⟩ := txcell HF7.res 4 _ rfl
      have hR9 := (rb_five HF7.res rfl (.int .i64 0) (.slice none 0 0) (.slice none 0 0) (.int .i64 0) (.int .i64 0)).keep (Below.refl _ _).drew
      have hB9 := mkHid (bel_st5n (B := w.heap.size + 1) HF7.bel (by omega) (.int .i64 0) (.slice none 0 0) (.slice none 0 0) (.int .i64 0) (.int .i64 0))
      replace hB9 := mkHid hB9.out.drew
      go_wp2_with (fail)
      have hRq := ((((hR7.other hneq 0 (.int .i64 0)).other hneq 1 (.slice none 0 0)).other hneq 2 (.slice none 0 0)).other hneq 3 (.int .i64 0)).other hneq 4 (.int .i64 0)
      have mq := (cells4 (hRq.keep (Below.refl _ _).drew)).2.2.2
      go_region
      go_wp2_with (fail)
      obtain ⟨k0, -⟩ := txcell hR9 0 _ rfl
      obtain ⟨k1, -⟩ := txcell hR9 1 _ rfl
      obtain ⟨k2, -⟩ := txcell hR9 2 _ rfl
      obtain ⟨k3, -⟩ := txcell hR9 3 _ rfl
      obtain ⟨k4, -⟩ := txcell hR9 4 _ rfl
      exact bodyPost_ret (v := .tuple #[.agg zN, .int .i64 (e : Nat)]) (by simp [results, Tryz.results11, go_sem, k0, k1, k2, k3, k4]) rfl ⟨_, rfl, by rw [HP.out]; rfl, hB9.out⟩
    | ok b =>
      rw [hlt] at hL6
      have gB := HGt.out b hlt
      obtain ⟨nb, cb, n', c', l', d', rfl, hM, hY, -, -⟩ := hL6
      have hln' : n' = l' := by have := gB.len; rw [hM.eqlen, hY.eqlen] at this; exact this.symm
      subst hln'
      have hB7 := bal w6 (.cells (sum4 nb cb n' c' n' d' b.k 0) 32)
      have HF7 := HF6.keep hB7
      have hR7 := rb_new w6 (sum4 nb cb n' c' n' d' b.k 0) 32
      have hR67 := hR6.keep hB7
      have hN7 := hN5.below (Nat.le_refl _) (bt2 hB6 hB7)
      have hZ7 := hZ5.below (Nat.le_refl _) (bt2 hB6 hB7)
      have hM7 := hM.below (Nat.le_refl _) hB7
      have hY7 := hY.below (Nat.le_refl _) hB7
      have hnn' : n' ≤ 500 := by have := gB.few; rw [hM.eqlen] at this; exact this
      have hs6 := hB6.size
      have hp7 : w6.heap.size < (w6.alloc (.cells (sum4 nb cb n' c' n' d' b.k 0) 32)).heap.size := by simp
      have HD : Hid (dfS 15 s t = mkS (difS 15 a b)) := by show _ = _; unfold dfS; rw [HLs.out, hlt]
      have fB := mkHid gB.fit
      obtain ⟨a0, a1, a2, a3⟩ := cells4 hR67
      obtain ⟨b0, b1, b2, b3⟩ := cells4 hR7
      clear HGt HEt HLs hN5 hZ5 hM hY hR5 hR6 gB hlt
      go_wp2_with (fail)
      have hp67 : p6 < w6.heap.size := by omega
      generalize w6.heap.size = p7 at hR7 hp7 hp67 b0 b1 b2 b3 ⊢
      generalize w6.alloc (.cells (sum4 nb cb n' c' n' d' b.k 0) 32) = w7 at HF7 hR7 hR67 hN7 hZ7 hM7 hY7 hp7 a0 a1 a2 a3 b0 b1 b2 b3 hB7 ⊢
      have P1 := mkHid (rplus_at a b na ca nb cb n c n d n' c' n' d' true w7 hN7 hZ7 hM7 hY7 (by omega) (by omega) fA.out fB.out rfl rfl)
      clear hB6 hB7 HF5 HF6 hW5 a0 a1 a2 a3 b0 b1 b2 b3
      refine P1.out.mono ?_
      rintro e w8 ⟨v8, rfl, hS8, hB8⟩
      obtain ⟨n8, c8, l8, g8, m8, d8, k8, e8, rfl⟩ := hS8.sum.shape
      have HF8 := HF7.keep (bt2 hB8 (bal w8 (.cells (sum4 n8 c8 l8 g8 m8 d8 k8 e8) 32)))
      have hR68 := hR67.keep (bt2 hB8 (bal w8 (.cells (sum4 n8 c8 l8 g8 m8 d8 k8 e8) 32)))
      have hR78 := hR7.keep (bt2 hB8 (bal w8 (.cells (sum4 n8 c8 l8 g8 m8 d8 k8 e8) 32)))
      have hR8 := rb_new w8 (sum4 n8 c8 l8 g8 m8 d8 k8 e8) 32
      clear P1
      have HBD := mkHid (bd_of (w := w) (m := m) HA.out HD.out)
      have HDG : Hid (∀ D, mkS (difS 15 a b) = .ok D → D.good nmB 1000) := fun D h => HGD.out D (HD.out.trans h)
      have hs8 := HF8.size
      have hB78 := bt2 hB8 (bal w8 (.cells (sum4 n8 c8 l8 g8 m8 d8 k8 e8) 32))
      have hS9 := (hS8.below (bal w8 (.cells (sum4 n8 c8 l8 g8 m8 d8 k8 e8) 32))).base (B' := w.heap.size) (by have := HF7.size; omega)
      have hp8 : w8.heap.size < (w8.alloc (.cells (sum4 n8 c8 l8 g8 m8 d8 k8 e8) 32)).heap.size := by simp
      have hq8 : w.heap.size + 1 < w8.heap.size := by have := HF7.size; have := hB8.size; omega
      have hp78 : p7 < w8.heap.size := Nat.lt_of_lt_of_le hp7 hB8.size
      have hN9 := hN7.below (Nat.le_refl _) hB78
      have hZ9 := hZ7.below (Nat.le_refl _) hB78
      have hM9 := hM7.below (Nat.le_refl _) hB78
      have hY9 := hY7.below (Nat.le_refl _) hB78
      obtain ⟨s0, s1, s2, s3⟩ := cells4 hR8
      obtain ⟨a0, a1, a2, a3⟩ := cells4 hR68
      obtain ⟨b0, b1, b2, b3⟩ := cells4 hR78
      clear HGD HA HD hS8 hB8 hB78 hN7 hZ7 hM7 hY7 hR7 hR67
      have hpS := hp8
      have HFS := HF8
      have hRS := hR8
      have hDS : DSumO w.heap.size _ (mkS (difS 15 a b)) (.agg (sum4 n8 c8 l8 g8 m8 d8 k8 e8)) := hS9
      clear hN9 hZ9 hM9 hY9 hS9 hR68 hR78 a0 a1 a2 a3 b0 b1 b2 b3 fA fB HF8 hR8 hp8
      have hkI : I64 k8 := by
        cases hd : mkS (difS 15 a b) with
        | er e => rw [hd] at hDS; obtain ⟨_, _, _, _, _, _, _, h1, _, h2⟩ := hDS; simp only [Value.agg.injEq] at h1; cases h1; exact h2
        | ok D => rw [hd] at hDS; obtain ⟨_, _, _, _, _, _, h1, _⟩ := hDS; simp only [Value.agg.injEq] at h1; cases h1; exact Sm.fits.k (HDG.out D hd).fit
      have SB : Hid (∀ y : World, Calls Tryz.prog 26 #[.int .i64 0, .int .i64 k8] y fun e w' => e = .returned (.tuple #[.int .i64 (Wd.nOf (-k8)), .int .i64 (Wd.eOf (-k8))]) ∧ Below y.heap.size y w') := fun y => rsub0 k8 y hkI
      go_wp2_with (fail)
      generalize w8.heap.size = p8 at hRS hpS hq8 hp78 s0 s1 s2 s3 ⊢
      generalize w8.alloc (.cells (sum4 n8 c8 l8 g8 m8 d8 k8 e8) 32) = wS at hDS HFS hRS hpS s0 s1 s2 s3 hs8 ⊢
      clear s0 s1 s2 s3
      refine (SB.out wS).mono ?_
      rintro e w11 ⟨rfl, hB11⟩
      have HF11 := HFS.keep hB11
      have hR11 := hRS.keep hB11
      have hD11 := hDS.below hB11
      clear HFS hRS hDS hB11 SB hpS
      go_wp2_with (fail)
      refine (note_any p8 (Wd.nOf (-k8)) (Wd.eOf (-k8)) n8 c8 l8 g8 m8 d8 k8 e8 w11 hR11).mono ?_
      rintro en w12 ⟨rfl, hR12, hX12⟩
      have HF12 := HF11.bux hX12 hq8
      have hD12 := hD11.bux hR11 hX12
      clear HF11 hD11 hR11 hX12
      have hneq : p8 ≠ w.heap.size + 1 := by omega
      -- how it came out
      have OUT : ((if Wd.eOf (-k8) = 0 then e8 else 91) = 91 ∧ atm (.mk 15 x m [s, t] []) = .er 91) ∨ ∃ D, mkS (difS 15 a b) = .ok D ∧ (if Wd.eOf (-k8) = 0 then e8 else 91) = 0 ∧ (Wd.nOf (-k8)) = bdOf 15 D.k ∧ in64 (-D.k) = true ∧ in64 (bdOf 15 D.k) = true := by
        cases hd : mkS (difS 15 a b) with
        | er e0 =>
          rw [hd] at hD12
          obtain ⟨_, _, _, _, _, _, _, h1, h2, _⟩ := hD12
          simp only [Value.agg.injEq] at h1
          cases h1
          have he0 := mkS_er hd
          subst he0
          left
          exact ⟨by simp, HBD.out.no _ hd⟩
        | ok D =>
          rw [hd] at hD12
          obtain ⟨_, _, _, _, _, _, h1, _⟩ := hD12
          simp only [Value.agg.injEq] at h1
          cases h1
          cases c1 : in64 (-D.k) with
          | false =>
            left
            have h9 : ¬ Wd.eOf (-D.k) = 0 := fun h => by rw [eOf_zero.1 h] at c1; cases c1
            exact ⟨by simp [h9], HBD.out.neg D hd c1⟩
          | true =>
            have h9 : Wd.eOf (-D.k) = 0 := eOf_zero.2 c1
            have hbo : bdOf 15 D.k = -D.k := by unfold bdOf; simp
            right
            exact ⟨D, rfl, by simp [h9], by rw [nOf_in c1, hbo], c1, by rw [hbo]; exact c1⟩
      generalize (if Wd.eOf (-k8) = 0 then e8 else 91) = ee at OUT hR12
      generalize (Wd.nOf (-k8)) = bd at OUT ⊢
      rcases OUT with ⟨rfl, hP⟩ | ⟨D, hd, rfl, rfl, c1, c2⟩
      · have HP := mkHid hP
        obtain ⟨m0, m1, m2, m3⟩ := cells4 hR12
        clear HBD HDG hP
        obtain ⟨r0, s0⟩ := txcell HF12.res 0 _ rfl
        obtain ⟨r1, s1⟩ := txcell HF12.res 1 _ rfl
        obtain ⟨r2, s2⟩ := txcell HF12.res 2 _ rfl
        obtain ⟨r3, s3⟩ := txcell HF12.res 3 _ rfl
        obtain ⟨r4, s4⟩ := txcell HF12.res 4 _ rfl
        have hR9 := (rb_five HF12.res rfl (.int .i64 0) (.slice none 0 0) (.slice none 0 0) (.int .i64 0) (.int .i64 0)).keep (Below.refl _ _).drew
        have hB9 := mkHid (bel_st5n (B := w.heap.size + 1) HF12.bel (by omega) (.int .i64 0) (.slice none 0 0) (.slice none 0 0) (.int .i64 0) (.int .i64 0))
        replace hB9 := mkHid hB9.out.drew
        go_wp2_with (fail)
        have hRq := ((((hR12.other hneq 0 (.int .i64 0)).other hneq 1 (.slice none 0 0)).other hneq 2 (.slice none 0 0)).other hneq 3 (.int .i64 0)).other hneq 4 (.int .i64 0)
        have mq := (cells4 (hRq.keep (Below.refl _ _).drew)).2.2.2
        go_region
        go_wp2_with (fail)
        obtain ⟨k0, -⟩ := txcell hR9 0 _ rfl
        obtain ⟨k1, -⟩ := txcell hR9 1 _ rfl
        obtain ⟨k2, -⟩ := txcell hR9 2 _ rfl
        obtain ⟨k3, -⟩ := txcell hR9 3 _ rfl
        obtain ⟨k4, -⟩ := txcell hR9 4 _ rfl
        exact bodyPost_ret (v := .tuple #[.agg zN, .int .i64 91]) (by simp [results, Tryz.results11, go_sem, k0, k1, k2, k3, k4]) rfl ⟨_, rfl, by rw [HP.out]; rfl, hB9.out⟩
      · have gD := HDG.out D hd
        have HBT := mkHid (HBD.out.loose D hd c1 c2)
        have HBG := mkHid (HBD.out.good D hd c1 c2)
        have hbI : I64 (bdOf 15 D.k) := (in64_iff _).1 c2
        have hbx : ∃ bd, bdOf 15 D.k = bd := ⟨_, rfl⟩
        rw [hd] at hD12
        obtain ⟨n1, c1', l1, g1, m1', d1', hv1, hN1, hK1, hO1⟩ := hD12
        simp only [Value.agg.injEq] at hv1
        cases hv1
        obtain ⟨m0, m1, m2, m3⟩ := cells4 hR12
        obtain ⟨b0, b1, b2, b3, b4⟩ := form5 HF12.box
        have hZ1 := rdz_of_own2 hO1
        have hlen : D.cs.length = D.ns.length := gD.len
        have hnl : l8 = D.ns.length := hN1.eqlen.symm
        have hml : m8 = D.cs.length := hZ1.eqlen.symm
        have hfew := gD.few
        have hmm : m8 ≤ 1000 := by omega
        have hcl : D.cs.length ≤ 1000 := by omega
        have hIz : ∀ z ∈ D.cs, I64 z := fun z hz => Sm.fits.c gD.fit z hz
        clear HBD HDG c1 c2 hd hkI hbx hnl hml hlen
        have hb2 := mkHid hbI
        have hm1 : 1 ≤ m := by simpa using HMD.out.1
        have hm2 : m ≤ 9223372036854775807 := him.2
        have HNR : Hid (nrOf 15 m D = ⟨2, D.ns, D.cs.map (fun z => z % m), (bdOf 15 D.k) % m, m⟩) := by
          show _ = _
          unfold nrOf bdOf; rw [if_pos rfl]; rfl
        generalize bdOf 15 D.k = bd at hb2 hbI HNR ⊢
        have hSh : Short D.ns := fun y hy => by have := name_small ((nmB_iff y).1 (gD.nms y hy)); omega
        have hcl0 : D.cs.length = m8 := hZ1.eqlen
        have HCL := mkHid hcl0
        have HZI := mkHid hIz
        obtain ⟨gz, hgz, hgw, hgp, hgn⟩ : ∃ gz, (0 < m8 → c8 = some ⟨gz, 0, none⟩) ∧ w.heap.size + 1 < gz ∧ p8 ≠ gz ∧ (∀ ad, n8 = some ad → ad.block ≠ gz) := by
          rcases gz_of hO1 with hz | ⟨gz, cur, hc, hr⟩
          · refine ⟨w12.heap.size, fun h => absurd h (by omega), ?_, ?_, ?_⟩
            · have := (Array.getElem?_eq_some_iff.1 hR12).1; omega
            · have := (Array.getElem?_eq_some_iff.1 hR12).1; omega
            · intro ad had
              obtain ⟨cur, hc⟩ := hK1 ad had
              have := (Array.getElem?_eq_some_iff.1 hc).1
              omega
          · refine ⟨gz, fun _ => hc, ?_, ?_, ?_⟩
            · have h1 := gz_low hO1 hc
              have h2 := (bk_of_owns hO1).ne HF12.res (by decide) _ hc
              have h3 := (bk_of_owns hO1).ne HF12.box (by decide) _ hc
              have h4 : gz ≠ w.heap.size + 1 := h2
              have h5 : gz ≠ w.heap.size := h3
              omega
            · have h2 := (bk_of_owns hO1).ne hR12 (by decide) _ hc
              exact fun h => h2 h.symm
            · exact hK1.ne hr (by decide)
        have hI0 : Bux gz w12 w12 := Bux.refl gz w12
        have hdc : m8 ≤ d8 ∧ d8 ≤ 9223372036854775807 := ⟨hZ1.lecap, hZ1.lemax⟩
        clear hcl0 hIz gD hZ1
        go_wp2_with (fail)
        clear m0 m1 m2 m3 b0 b1 b2 b3 b4
        go_loopw [12] (fun i wr => ∃ j : Nat, j ≤ m8 ∧ i = .int .i64 j ∧ wr.ownsRow w.heap.size 2 1 (.slice c8 m8 d8) m8 (cellsZ (front (D.cs.map (fun z => z % m)) D.cs j)) ∧ Bux gz w12 wr) (fun i _ => m8 - (intOf i).toNat)
        case atStart => exact ⟨0, Nat.zero_le _, rfl, by rw [front_zero]; exact hO1, Bux.refl _ _⟩
        case round =>
          obtain ⟨j, hj, rfl, hO, hXr⟩ := hrel
          have hRr := hR12.but hXr hgp
          have HFr := HF12.bux hXr hgw
          obtain ⟨m0, m1, m2, m3⟩ := cells4 hRr
          by_cases hlt : j < m8
          · obtain rfl : c8 = some ⟨gz, 0, none⟩ := hgz (by omega)
            have hoc := ownsZ_cell hO j hlt
            rw [front_get _ _ _ (by simp) (by rw [HCL.out]; exact hlt)] at hoc
            have hzj : I64 (D.cs.getD j 0) := HZI.out _ (by rw [getD_of (by rw [HCL.out]; exact hlt)]; exact List.getElem_mem _)
            have hus : (D.cs.map (fun z => z % m)).getD j 0 = D.cs.getD j 0 % m := by
              rw [getD_of (show j < (D.cs.map (fun z => z % m)).length by rw [List.length_map, HCL.out]; exact hlt), getD_of (show j < D.cs.length by rw [HCL.out]; exact hlt)]
              simp
            have HST : Hid (∀ y : World, y.ownsRow w.heap.size 2 1 (.slice (some ⟨gz, 0, none⟩) m8 d8) m8 (cellsZ (front (D.cs.map (fun z => z % m)) D.cs j)) → (y.setCell ⟨gz, j, none⟩ (.int .i64 (D.cs.getD j 0 % m))).ownsRow w.heap.size 2 1 (.slice (some ⟨gz, 0, none⟩) m8 d8) m8 (cellsZ (front (D.cs.map (fun z => z % m)) D.cs (j + 1)))) := fun y hy => by
              have h := (hy.stored j (.int .i64 (D.cs.getD j 0 % m))).1
              rw [cells_set, ← hus, front_set _ _ _ (by simp) (by rw [List.length_map, HCL.out]; exact hlt), hus] at h
              exact h
            have RC : Hid (∀ y : World, Calls Tryz.prog 28 #[.int .i64 (D.cs.getD j 0), .int .i64 m] y fun e w' => e = .returned (.tuple #[.int .i64 (D.cs.getD j 0 % m), .int .i64 0]) ∧ Below y.heap.size y w') := fun y => refrest_at _ m y hzj hm1 hm2
            clear hus
            generalize D.cs.getD j 0 = z at hoc hzj HST RC
            go_wp2_with (fail)
            have OW : ∀ y : World, Below wr.drew.heap.size wr.drew y → y.ownsRow w.heap.size 2 1 (.slice (some ⟨gz, 0, none⟩) m8 d8) m8 (cellsZ (front (D.cs.map (fun z => z % m)) D.cs j)) := fun y hy => owns_below hO (bt2 (Below.refl _ wr).drew hy)
            have C1 : ∀ y : World, Below wr.drew.heap.size wr.drew y → y.cell? ⟨p8, 1, none⟩ = some (.slice (some ⟨gz, 0, none⟩) m8 d8) := fun y hy => (cells4 (hRr.keep (bt2 (Below.refl _ wr).drew hy))).2.1
            have C2 : ∀ y : World, Below wr.drew.heap.size wr.drew y → y.cell? ⟨w.heap.size, 2, none⟩ = some (.int .i64 m) := fun y hy => (form5 (HFr.keep (bt2 (Below.refl _ wr).drew hy)).box).2.2.1
            have CZ : ∀ y : World, Below wr.drew.heap.size wr.drew y → y.cell? ⟨gz, j, none⟩ = some (.int .i64 z) := fun y hy => (hy.cell (p := ⟨gz, j, none⟩) (World.block_lt_of_cell? _ _ hoc)).trans hoc
            have FZ : ∀ y : World, Below wr.drew.heap.size wr.drew y → y.frozen? ⟨gz, j, none⟩ = false := fun y hy => (OW y hy).frozenAt j
            have hrel0 := Below.refl wr.drew.heap.size wr.drew
            have c1 := C1 _ hrel0
            have c2 := C2 _ hrel0
            have cz := CZ _ hrel0
            have fz := FZ _ hrel0
            go_region_with (go_at_call 28; refine (RC.out _).mono ?_; rintro e w' ⟨rfl, hrel⟩; replace c1 := C1 _ hrel; replace c2 := C2 _ hrel; replace cz := CZ _ hrel; replace fz := FZ _ hrel)
            all_goals
              have hO9 := mkHid (HST.out w' (OW w' hrel))
              have hX9 := mkHid ((hXr.trans (Bux.of (bt2 (Below.refl _ wr).drew hrel))).set j (.int .i64 (z % m)))
              clear c1 c2 cz fz hrel OW C1 C2 CZ FZ
              go_wp2
              go_roundw
              case rel => exact ⟨j + 1, by omega, by go_num, hO9.out, hX9.out⟩
              case measure => simp [intOf]; omega
          · obtain rfl : m8 = j := by omega
            rw [front_all _ _ m8 (by rw [List.length_map]; exact HCL.out) HCL.out] at hO
            obtain ⟨b0, b1, b2, b3, b4⟩ := form5 HFr.box
            have hN0 := rds_bx8 hN1 hXr hgn
            have hK0 := bk_bux hK1 hXr hgn
            have RC := mkHid (refrest_at bd m wr hbI hm1 hm2)
            have hIq : ∀ z : Int, I64 (z % m) := fun z => by
              have h1 := Int.emod_nonneg z (show m ≠ 0 by omega)
              have h2 := Int.emod_lt_of_pos z (show 0 < m by omega)
              exact ⟨by omega, by omega⟩
            have hIz : ∀ z ∈ D.cs.map (fun z => z % m), I64 z := fun z hz => by
              obtain ⟨y, -, rfl⟩ := List.mem_map.1 hz
              exact hIq y
            have hcl : (D.cs.map (fun z => z % m)).length ≤ 1000 := by rw [List.length_map, HCL.out]; exact hmm
            have hbI := hIq bd
            have hb2 := mkHid hbI
            generalize D.cs.map (fun z => z % m) = cs1 at hO HNR hIz hcl
            generalize bd % m = bq at RC HNR hbI hb2
            clear hN1 hK1 hO1 HF12 hR12 hgz hXr hI0 HZI HCL
            go_wp2_with (fail)
            refine RC.out.mono ?_
            rintro e w15 ⟨rfl, hB15⟩
            have HF15 := HFr.keep hB15
            have hR15 := hRr.keep hB15
            have hN1 := hN0.below (Nat.le_refl _) hB15
            have hK1 := hK0.below hB15
            have hO1 := owns_below hO hB15
            have hZ1 := rdz_of_own2 hO1
            clear HFr hRr hN0 hK0 hO m0 m1 m2 m3 b0 b1 b2 b3 b4 RC hIq
            obtain ⟨m0, m1, m2, m3⟩ := cells4 hR15
            obtain ⟨b0, b1, b2, b3, b4⟩ := form5 HF15.box
            have hT : Hid (∀ a4 c4 (w4 : World), RdZ w4 a4 (1 + m8) c4 (bq :: cs1) → ∃ xx er : Int, ((er = 0 ∧ tight (nrOf 15 m D)) ∨ (er ≠ 0 ∧ ¬ tight (nrOf 15 m D))) ∧ Calls Tryz.prog 29 #[.slice a4 (1 + m8) c4] w4 fun e w' => e = .returned (.tuple #[.int .i64 xx, .int .i64 er]) ∧ Below w4.heap.size w4 w') := by
              intro a4 c4 w4 hR4
              have hrow := row_of_rdz hR4 (by
                intro z hz
                rcases List.mem_cons.1 hz with rfl | hz
                · exact hb2.out
                · exact hIz z hz) (by unfold maxLen; omega)
              refine ⟨_, _, ?_, Chk.ref_total _ _ w4 hrow (by rw [List.length_cons]; omega)⟩
              have e : Chk.tot (bq :: cs1) = bq.natAbs + Chk.tot cs1 := rfl
              have e2 := HNR.out
              rw [e2]
              unfold tight tot Chk.errT
              rw [e]
              by_cases ht : bq.natAbs + Chk.tot cs1 ≤ 9223372036854775807
              · left; exact ⟨if_pos ht, by show Chk.tot cs1 + bq.natAbs ≤ _; omega⟩
              · right; rw [if_neg ht]; exact ⟨by decide, by show ¬ (Chk.tot cs1 + bq.natAbs ≤ _); omega⟩
            have q1 : (w15.alloc (.cells #[.int .i64 bq] 2)).cell? ⟨p8, 1, none⟩ = some (.slice c8 m8 d8) := (cells4 (hR15.keep (bal w15 _))).2.1
            go_wp2_with (at_builtin; refine wp_oneQ w15 rfl (.tmp 126) (.tmp 128) rfl bq rfl c8 m8 d8 cs1 (by go_simp) hZ1 (by omega) ?_; intro a4 c4' w13 hR4 hB13)
            obtain ⟨xx, er, hE, hC⟩ := hT.out a4 c4' w13 hR4
            refine hC.mono ?_
            rintro e w14 ⟨rfl, hB14⟩
            have hB24 := bt2 hB13 hB14
            have HF14 := HF15.keep hB24
            have hR14 := hR15.keep hB24
            have hN14 := hN1.below (Nat.le_refl _) hB24
            have hZ14 := hZ1.below (Nat.le_refl _) hB24
            have hK14 := hK1.below hB24
            have hC14 := (bk_of_owns hO1).below hB24
            clear m0 m1 m2 m3 b0 b1 b2 b3 b4 q1 hT hR4 hC HF15 hR15 hN1 hZ1 hK1 hO1 hB13 hB14 hB24
            rcases hE with ⟨rfl, ht⟩ | ⟨hne, ht⟩
            · have HP := mkHid (HBG.out ht)
              obtain ⟨m0, m1, m2, m3⟩ := cells4 hR14
              obtain ⟨b0, b1, b2, b3, b4⟩ := form5 HF14.box
              obtain ⟨r0, s0⟩ := txcell HF14.res 0 _ rfl
              obtain ⟨r1, s1⟩ := txcell HF14.res 1 _ rfl
              obtain ⟨r2, s2⟩ := txcell HF14.res 2 _ rfl
              obtain ⟨r3, s3⟩ := txcell HF14.res 3 _ rfl
              obtain ⟨r4, s4⟩ := txcell HF14.res 4 _ rfl
              have hR9 := rb_five HF14.res rfl (.int .i64 2) (.slice n8 l8 g8) (.slice c8 m8 d8) (.int .i64 bq) (.int .i64 m)
              have hB9 := mkHid (bel_st5n (B := w.heap.size + 1) HF14.bel (by omega) (.int .i64 2) (.slice n8 l8 g8) (.slice c8 m8 d8) (.int .i64 bq) (.int .i64 m))
              have hM9 := mkHid (NrM.five (N := ⟨2, D.ns, cs1, bq, m⟩) ⟨hN14, hZ14, hSh, hIz, hb2.out, by unfold maxLen; omega⟩ (hK14.ne HF14.res (by decide)) (hC14.ne HF14.res (by decide)) (.int .i64 2) (.slice n8 l8 g8) (.slice c8 m8 d8) (.int .i64 bq) (.int .i64 m))
              clear HBT HBG ht hN14 hZ14 hK14 hC14
              go_wp2_with (fail)
              obtain ⟨k0, -⟩ := txcell hR9 0 _ rfl
              obtain ⟨k1, -⟩ := txcell hR9 1 _ rfl
              obtain ⟨k2, -⟩ := txcell hR9 2 _ rfl
              obtain ⟨k3, -⟩ := txcell hR9 3 _ rfl
              obtain ⟨k4, -⟩ := txcell hR9 4 _ rfl
              refine bodyPost_ret (v := .tuple #[nrV 2 bq m n8 c8 l8 g8 m8 d8, .int .i64 0]) (by simp [results, Tryz.results11, go_sem, k0, k1, k2, k3, k4]) rfl ⟨_, rfl, ?_, hB9.out⟩
              rw [HP.out, HNR.out]
              exact ⟨_, _, _, _, _, _, rfl, hM9.out⟩
            · have HP := mkHid (HBT.out ht)
              have hx : (er != 0) = true := by rw [bne_iff_ne]; exact hne
              clear HBT HBG ht hne hN14 hZ14 hK14 hC14
              obtain ⟨r0, s0⟩ := txcell HF14.res 0 _ rfl
              obtain ⟨r1, s1⟩ := txcell HF14.res 1 _ rfl
              obtain ⟨r2, s2⟩ := txcell HF14.res 2 _ rfl
              obtain ⟨r3, s3⟩ := txcell HF14.res 3 _ rfl
              obtain ⟨r4, s4⟩ := txcell HF14.res 4 _ rfl
              have hR9 := rb_five HF14.res rfl (.int .i64 0) (.slice none 0 0) (.slice none 0 0) (.int .i64 0) (.int .i64 0)
              have hB9 := mkHid (bel_st5n (B := w.heap.size + 1) HF14.bel (by omega) (.int .i64 0) (.slice none 0 0) (.slice none 0 0) (.int .i64 0) (.int .i64 0))
              go_wp2_with (fail)
              obtain ⟨k0, -⟩ := txcell hR9 0 _ rfl
              obtain ⟨k1, -⟩ := txcell hR9 1 _ rfl
              obtain ⟨k2, -⟩ := txcell hR9 2 _ rfl
              obtain ⟨k3, -⟩ := txcell hR9 3 _ rfl
              obtain ⟨k4, -⟩ := txcell hR9 4 _ rfl
              exact bodyPost_ret (v := .tuple #[.agg zN, .int .i64 91]) (by simp [results, Tryz.results11, go_sem, k0, k1, k2, k3, k4]) rfl ⟨_, rfl, by rw [HP.out]; rfl, hB9.out⟩
end Go.Proofs.YtiapkblebbcfbaaGreat.Gl
