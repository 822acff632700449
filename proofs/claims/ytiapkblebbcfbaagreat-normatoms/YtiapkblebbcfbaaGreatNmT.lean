/- The program's Atom. -/
import Derived.Test.YtiapkblebbcfbaaGreatNmS
import Derived.Test.YtiapkblebbcfbaaGreatPsE
namespace Go.Proofs.YtiapkblebbcfbaaGreat.Gl
open Go.RowKit
set_option linter.unusedVariables false
set_option linter.unusedSimpArgs false

theorem rds_five {w : World} {ro : Option Addr} {n c X : Nat} {T : List ByteArray} (h : RdS w ro n c T) (hne : ∀ ad, ro = some ad → ad.block ≠ X) (v0 v1 v2 v3 v4 : Value) : RdS (st5 w X v0 v1 v2 v3 v4) ro n c T := rds_other (rds_other (rds_st3 h hne v0 v1 v2) hne 3 v3) hne 4 v4
theorem rdz_five {w : World} {ro : Option Addr} {n c X : Nat} {T : List Int} (h : RdZ w ro n c T) (hne : ∀ ad, ro = some ad → ad.block ≠ X) (v0 v1 v2 v3 v4 : Value) : RdZ (st5 w X v0 v1 v2 v3 v4) ro n c T := rdz_other (rdz_other (rdz_st3 h hne v0 v1 v2) hne 3 v3) hne 4 v4
theorem bel_st5n {b B : Nat} {w w' : World} (h : Below b w w') (hB : b ≤ B) (v0 v1 v2 v3 v4 : Value) : Below b w (st5 w' B v0 v1 v2 v3 v4) := ((bel_st3 h hB v0 v1 v2).setCell (p := ⟨B, 3, none⟩) hB v3).setCell (p := ⟨B, 4, none⟩) hB v4
theorem NrM.five {w : World} {N : Nr} {no co : Option Addr} {n c o d X : Nat} (h : NrM w N no co n c o d) (h1 : ∀ ad, no = some ad → ad.block ≠ X) (h2 : ∀ ad, co = some ad → ad.block ≠ X) (v0 v1 v2 v3 v4 : Value) : NrM (st5 w X v0 v1 v2 v3 v4) N no co n c o d := ⟨rds_five h.ns h1 _ _ _ _ _, rdz_five h.cs h2 _ _ _ _ _, h.short, h.i64, h.bd, h.max⟩
theorem st5_z (w : World) (X : Nat) (h : Rb w X zN 44) : True := trivial
set_option maxRecDepth 100000 in
set_option maxHeartbeats 4000000 in
theorem atom_bad (W : World) (f : Fm) (v : Value) (w : World) (hv : FmV W f v) (hW : Below W.heap.size W w) (h0 : ¬ chk nmB f = 0) :
    Calls Tryz.prog 10 #[v] w fun e w' => ∃ v', e = .returned v' ∧ ArV w.heap.size w' (atm f) v' ∧ Below w.heap.size w w' := by
  have HP := mkHid (atm_no h0)
  have hx : ((chk nmB f : Int) == 0) = false := by rw [beq_eq_false_iff_ne]; omega
  have CK : Hid (∀ w', Below w.heap.size w w' → Calls Tryz.prog 18 #[v] w' fun e w'' => e = .returned (.int .i64 (chk nmB f : Nat)) ∧ Below w'.heap.size w' w'') := fun w' h => check_run W f v w' hv (hW.trans (h.mono hW.size))
  obtain ⟨c0, c1, c2, c3, c4, rfl, hr⟩ := hv
  have HF := mkHid (frF_new w c0 c1 c2 c3 c4 zN 44)
  generalize hw2 : (w.alloc (.cells #[c0, c1, c2, c3, c4] 41)).alloc (.cells zN 44) = w2 at HF
  have HW : Hid ((w.alloc (.cells #[c0, c1, c2, c3, c4] 41)).alloc (.cells #[.int .i64 0, .slice none 0 0, .slice none 0 0, .int .i64 0, .int .i64 0] 44) = w2) := hw2
  generalize chk nmB f = x at CK HP hx
  clear hr h0 hw2
  go_enter Tryz.func10, Tryz.ntmps10
  go_wp2_with (fail)
  have eW := HW.out
  rw [eW]
  clear eW HW
  refine (CK.out _ HF.out.bel).mono ?_
  rintro e w3 ⟨rfl, hB3⟩
  have HF3 := HF.out.keep hB3
  obtain ⟨r0, s0⟩ := txcell HF3.res 0 _ rfl
  obtain ⟨r1, s1⟩ := txcell HF3.res 1 _ rfl
  obtain ⟨r2, s2⟩ := txcell HF3.res 2 _ rfl
  obtain ⟨r3, s3⟩ := txcell HF3.res 3 _ rfl
  obtain ⟨r4, s4⟩ := txcell HF3.res 4 _ rfl
  have hR9 := rb_five HF3.res rfl (.int .i64 0) (.slice none 0 0) (.slice none 0 0) (.int .i64 0) (.int .i64 0)
  have hB9 := mkHid (bel_st5n (B := w.heap.size + 1) HF3.bel (by omega) (.int .i64 0) (.slice none 0 0) (.slice none 0 0) (.int .i64 0) (.int .i64 0))
  go_wp2_with (fail)
  obtain ⟨k0, -⟩ := txcell hR9 0 _ rfl
  obtain ⟨k1, -⟩ := txcell hR9 1 _ rfl
  obtain ⟨k2, -⟩ := txcell hR9 2 _ rfl
  obtain ⟨k3, -⟩ := txcell hR9 3 _ rfl
  obtain ⟨k4, -⟩ := txcell hR9 4 _ rfl
  exact bodyPost_ret (v := .tuple #[.agg zN, .int .i64 x]) (by simp [results, Tryz.results10, go_sem, k0, k1, k2, k3, k4]) rfl ⟨_, rfl, by rw [HP.out]; rfl, hB9.out⟩
set_option maxRecDepth 100000 in
set_option maxHeartbeats 4000000 in
theorem atom_low (W : World) (f : Fm) (v : Value) (w : World) (hv : FmV W f v) (hW : Below W.heap.size W w) (h0 : chk nmB f = 0) (h1 : f.op < 9) :
    Calls Tryz.prog 10 #[v] w fun e w' => ∃ v', e = .returned v' ∧ ArV w.heap.size w' (atm f) v' ∧ Below w.heap.size w w' := by
  have HP := mkHid (atm_low h0 h1)
  have CK : Hid (∀ w', Below w.heap.size w w' → Calls Tryz.prog 18 #[v] w' fun e w'' => e = .returned (.int .i64 0) ∧ Below w'.heap.size w' w'') := fun w' h => by
    have := check_run W f v w' hv (hW.trans (h.mono hW.size))
    rw [h0] at this
    exact this
  obtain ⟨c0, c1, c2, c3, c4, rfl, hr⟩ := hv
  cases f with
  | mk o x m t a =>
  have ht := fm_low (fm_right h0).1 h1
  subst ht
  rw [RdF] at hr
  obtain ⟨rfl, rfl, rfl, -, ⟨ao, cap, rfl, -⟩, -⟩ := hr
  have HF := mkHid (frF_new w (.int .i64 o) (.string x) (.int .i64 m) (.slice ao 0 cap) c4 zN 44)
  generalize hw2 : (w.alloc (.cells #[.int .i64 o, .string x, .int .i64 m, .slice ao 0 cap, c4] 41)).alloc (.cells zN 44) = w2 at HF
  have HW : Hid ((w.alloc (.cells #[.int .i64 o, .string x, .int .i64 m, .slice ao 0 cap, c4] 41)).alloc (.cells #[.int .i64 0, .slice none 0 0, .slice none 0 0, .int .i64 0, .int .i64 0] 44) = w2) := hw2
  clear h0 h1 hw2
  go_enter Tryz.func10, Tryz.ntmps10
  go_wp2_with (fail)
  have eW := HW.out
  rw [eW]
  clear eW HW
  refine (CK.out _ HF.out.bel).mono ?_
  rintro e w3 ⟨rfl, hB3⟩
  have HF3 := HF.out.keep hB3
  obtain ⟨b3, -⟩ := txcell HF3.box 3 _ rfl
  obtain ⟨r0, s0⟩ := txcell HF3.res 0 _ rfl
  obtain ⟨r1, s1⟩ := txcell HF3.res 1 _ rfl
  obtain ⟨r2, s2⟩ := txcell HF3.res 2 _ rfl
  obtain ⟨r3, s3⟩ := txcell HF3.res 3 _ rfl
  obtain ⟨r4, s4⟩ := txcell HF3.res 4 _ rfl
  have hR9 := rb_five HF3.res rfl (.int .i64 0) (.slice none 0 0) (.slice none 0 0) (.int .i64 0) (.int .i64 0)
  have hB9 := mkHid (bel_st5n (B := w.heap.size + 1) HF3.bel (by omega) (.int .i64 0) (.slice none 0 0) (.slice none 0 0) (.int .i64 0) (.int .i64 0))
  go_wp2_with (fail)
  obtain ⟨k0, -⟩ := txcell hR9 0 _ rfl
  obtain ⟨k1, -⟩ := txcell hR9 1 _ rfl
  obtain ⟨k2, -⟩ := txcell hR9 2 _ rfl
  obtain ⟨k3, -⟩ := txcell hR9 3 _ rfl
  obtain ⟨k4, -⟩ := txcell hR9 4 _ rfl
  exact bodyPost_ret (v := .tuple #[.agg zN, .int .i64 3]) (by simp [results, Tryz.results10, go_sem, k0, k1, k2, k3, k4]) rfl ⟨_, rfl, by rw [HP.out]; rfl, hB9.out⟩
set_option maxRecDepth 100000 in
set_option maxHeartbeats 4000000 in
theorem atom_atom (W : World) (o m : Int) (x : ByteArray) (s t : Tm) (v : Value) (w : World) (hv : FmV W (.mk o x m [s, t] []) v) (hW : Below W.heap.size W w) (h0 : chk nmB (.mk o x m [s, t] []) = 0) (h1 : ¬ o < 9) :
    Calls Tryz.prog 10 #[v] w fun e w' => ∃ v', e = .returned v' ∧ ArV w.heap.size w' (atm (.mk o x m [s, t] [])) v' ∧ Below w.heap.size w w' := by
  have hwell := fm_right h0
  have hfa := fm_atom hwell.1 h1
  have hs := hwell.2.1 s (List.mem_cons_self ..)
  have ht := hwell.2.1 t (List.mem_cons_of_mem _ (List.mem_cons_self ..))
  have hsz : s.size + t.size ≤ 499 := by have := hwell.2.2; simp only [Tm.sizeL, Fm.sizeL] at this; omega
  have HA : Hid (atm (.mk o x m [s, t] []) = match dfS o s t with | .er e => .er e | .ok D => finS o m D) := (atm_at h0 h1).trans (atmS_eq o m s t)
  have HER : Hid (∀ e, dfS o s t = .er e → e = 90 ∨ e = 91) := fun e he => dfS_er hs ht he
  have HGD : Hid (∀ D, dfS o s t = .ok D → D.good nmB 1000) := fun D hD => dfS_good hs ht hsz hD
  have HMD := mkHid hfa.2.2
  have CK : Hid (∀ w', Below w.heap.size w w' → Calls Tryz.prog 18 #[v] w' fun e w'' => e = .returned (.int .i64 0) ∧ Below w'.heap.size w' w'') := fun w' h => by
    have := check_run W _ v w' hv (hW.trans (h.mono hW.size))
    rw [h0] at this
    exact this
  have CD : Hid (∀ w', Below w.heap.size w w' → Calls Tryz.prog 19 #[v] w' fun e w'' => ∃ v', e = .returned v' ∧ LrN w'.heap.size w'' (dfS o s t) v' ∧ Below w'.heap.size w' w'') := fun w' h => difference_at W o x m s t [] v w' hv (hW.trans (h.mono hW.size)) hs ht hsz
  obtain ⟨c0, c1, c2, c3, c4, rfl, hr⟩ := hv
  rw [RdF] at hr
  obtain ⟨rfl, rfl, rfl, ⟨hio, him, -⟩, ⟨ao, cap, rfl, -⟩, -⟩ := hr
  have HF := mkHid (frF_new w (.int .i64 o) (.string x) (.int .i64 m) (.slice ao 2 cap) c4 zN 44)
  generalize hw2 : (w.alloc (.cells #[.int .i64 o, .string x, .int .i64 m, .slice ao 2 cap, c4] 41)).alloc (.cells zN 44) = w2 at HF
  have HW : Hid ((w.alloc (.cells #[.int .i64 o, .string x, .int .i64 m, .slice ao 2 cap, c4] 41)).alloc (.cells #[.int .i64 0, .slice none 0 0, .slice none 0 0, .int .i64 0, .int .i64 0] 44) = w2) := hw2
  clear h0 hwell hfa hw2 hs ht
  go_enter Tryz.func10, Tryz.ntmps10
  go_wp2_with (fail)
  have eW := HW.out
  rw [eW]
  clear eW HW
  refine (CK.out _ HF.out.bel).mono ?_
  rintro e w3 ⟨rfl, hB3⟩
  have HF3 := HF.out.keep hB3
  have b0 := (txcell HF3.box 0 _ rfl).1
  have b1 := (txcell HF3.box 1 _ rfl).1
  have b2 := (txcell HF3.box 2 _ rfl).1
  have b3 := (txcell HF3.box 3 _ rfl).1
  have b4 := (txcell HF3.box 4 _ rfl).1
  go_wp2_with (fail)
  refine (CD.out _ HF3.bel).mono ?_
  rintro e w4 ⟨v4, rfl, hL4, hB4⟩
  have HF4 := HF3.keep hB4
  have hs3 := HF3.size
  have hs34 : w3.heap.size ≤ w4.heap.size := hB4.size
  clear CK CD b0 b1 b2 b3 b4
  cases hd : dfS o s t with
  | er e =>
    rw [hd] at hL4
    have hv : v4 = .tuple #[.agg zS, .int .i64 e] := hL4
    subst hv
    have HP : Hid (atm (.mk o x m [s, t] []) = .er e) := HA.out.trans (by rw [hd])
    rcases HER.out e hd with rfl | rfl
    · have HF5 := HF4.keep (bal w4 (.cells #[.slice none 0 0, .slice none 0 0, .int .i64 0] 54))
      clear HA HER HGD HMD hL4
      obtain ⟨r0, s0⟩ := txcell HF5.res 0 _ rfl
      obtain ⟨r1, s1⟩ := txcell HF5.res 1 _ rfl
      obtain ⟨r2, s2⟩ := txcell HF5.res 2 _ rfl
      obtain ⟨r3, s3⟩ := txcell HF5.res 3 _ rfl
      obtain ⟨r4, s4⟩ := txcell HF5.res 4 _ rfl
      have hR9 := rb_five HF5.res rfl (.int .i64 0) (.slice none 0 0) (.slice none 0 0) (.int .i64 0) (.int .i64 0)
      have hB9 := mkHid (bel_st5n (B := w.heap.size + 1) HF5.bel (by omega) (.int .i64 0) (.slice none 0 0) (.slice none 0 0) (.int .i64 0) (.int .i64 0))
      go_wp2_with (fail)
      obtain ⟨k0, -⟩ := txcell hR9 0 _ rfl
      obtain ⟨k1, -⟩ := txcell hR9 1 _ rfl
      obtain ⟨k2, -⟩ := txcell hR9 2 _ rfl
      obtain ⟨k3, -⟩ := txcell hR9 3 _ rfl
      obtain ⟨k4, -⟩ := txcell hR9 4 _ rfl
      exact bodyPost_ret (v := .tuple #[.agg zN, .int .i64 90]) (by simp [results, Tryz.results10, go_sem, k0, k1, k2, k3, k4]) rfl ⟨_, rfl, by rw [HP.out]; rfl, hB9.out⟩
    · have HF5 := HF4.keep (bal w4 (.cells #[.slice none 0 0, .slice none 0 0, .int .i64 0] 54))
      clear HA HER HGD HMD hL4
      obtain ⟨r0, s0⟩ := txcell HF5.res 0 _ rfl
      obtain ⟨r1, s1⟩ := txcell HF5.res 1 _ rfl
      obtain ⟨r2, s2⟩ := txcell HF5.res 2 _ rfl
      obtain ⟨r3, s3⟩ := txcell HF5.res 3 _ rfl
      obtain ⟨r4, s4⟩ := txcell HF5.res 4 _ rfl
      have hR9 := rb_five HF5.res rfl (.int .i64 0) (.slice none 0 0) (.slice none 0 0) (.int .i64 0) (.int .i64 0)
      have hB9 := mkHid (bel_st5n (B := w.heap.size + 1) HF5.bel (by omega) (.int .i64 0) (.slice none 0 0) (.slice none 0 0) (.int .i64 0) (.int .i64 0))
      go_wp2_with (fail)
      obtain ⟨k0, -⟩ := txcell hR9 0 _ rfl
      obtain ⟨k1, -⟩ := txcell hR9 1 _ rfl
      obtain ⟨k2, -⟩ := txcell hR9 2 _ rfl
      obtain ⟨k3, -⟩ := txcell hR9 3 _ rfl
      obtain ⟨k4, -⟩ := txcell hR9 4 _ rfl
      exact bodyPost_ret (v := .tuple #[.agg zN, .int .i64 91]) (by simp [results, Tryz.results10, go_sem, k0, k1, k2, k3, k4]) rfl ⟨_, rfl, by rw [HP.out]; rfl, hB9.out⟩
  | ok D =>
    rw [hd] at hL4
    obtain ⟨no, n, c, mm, d, g, rfl, hN4, ⟨hNA, hNG⟩, hO4⟩ := hL4
    have HP0 : Hid (atm (.mk o x m [s, t] []) = finS o m D) := HA.out.trans (by rw [hd])
    have gD := HGD.out D hd
    have hkD := Sm.fits.k gD.fit
    have hfew := gD.few
    have hlen := gD.len
    rw [hN4.eqlen] at hfew hlen
    have hmm : mm = n := by have h1 := hO4.1; simp only [List.length_map, Nat.mul_one] at h1; omega
    subst hmm
    have hgB : w3.heap.size ≤ g := owns_ad hO4 _ rfl
    have hgl : g < w4.heap.size := owns_adlt hO4 _ rfl
    have HSH : Hid (Short D.ns) := fun y hy => by have := name_small ((nmB_iff y).1 (gD.nms y hy)); omega
    have HCI : Hid (∀ z ∈ D.cs, I64 z) := Sm.fits.c gD.fit
    have HF5 := HF4.keep (bal w4 (.cells #[.slice no mm c, .slice (some ⟨g, 0, none⟩) mm d, .int .i64 D.k] 54))
    have hR5 := rb_new w4 #[.slice no mm c, .slice (some ⟨g, 0, none⟩) mm d, .int .i64 D.k] 54
    have hN5 := hN4.below (Nat.le_refl _) (bal w4 (.cells #[.slice no mm c, .slice (some ⟨g, 0, none⟩) mm d, .int .i64 D.k] 54))
    have hO5 := owns_below hO4 (bal w4 (.cells #[.slice no mm c, .slice (some ⟨g, 0, none⟩) mm d, .int .i64 D.k] 54))
    have hs5 : w4.heap.size + 1 ≤ (w4.alloc (.cells #[.slice no mm c, .slice (some ⟨g, 0, none⟩) mm d, .int .i64 D.k] 54)).heap.size := by simp
    clear HA HER HGD hN4 hO4 gD hlen
    generalize hw5 : w4.alloc (.cells #[.slice no mm c, .slice (some ⟨g, 0, none⟩) mm d, .int .i64 D.k] 54) = w5 at HF5 hR5 hN5 hO5 hs5
    have b0 : w5.cell? ⟨w.heap.size, 0, none⟩ = some (.int .i64 o) := (txcell HF5.box 0 _ rfl).1
    have b2 : w5.cell? ⟨w.heap.size, 2, none⟩ = some (.int .i64 m) := (txcell HF5.box 2 _ rfl).1
    have e0 : w5.cell? ⟨w4.heap.size, 0, none⟩ = some (.slice no mm c) := (txcell hR5 0 _ rfl).1
    have e1 : w5.cell? ⟨w4.heap.size, 1, none⟩ = some (.slice (some ⟨g, 0, none⟩) mm d) := (txcell hR5 1 _ rfl).1
    have e2 : w5.cell? ⟨w4.heap.size, 2, none⟩ = some (.int .i64 D.k) := (txcell hR5 2 _ rfl).1
    have hl5 : w.heap.size < w5.heap.size := by omega
    have hl5' : w.heap.size + 1 < w5.heap.size := by omega
    have hl4 : w4.heap.size < w5.heap.size := by omega
    by_cases hb : in64 (-D.k) = true ∧ in64 (bdOf o D.k) = true
    · have BO := mkHid (boundOf_at o D.k w5 hkD (bdOf o D.k) 0 (.inl ⟨hb.1, hb.2, rfl, rfl⟩))
      have hbI : I64 (bdOf o D.k) := (in64_iff _).1 hb.2
      have KO : Hid (∀ w', Calls Tryz.prog 21 #[.int .i64 o] w' fun e w'' => e = .returned (.int .i64 (kdOf o)) ∧ w' = w'') := fun w' => kindOf_at o w'
      have HTW := mkHid (@finS_wide o m D hb)
      have HTO := mkHid (@finS_ok o m D hb)
      clear hb
      go_wp2_with (fail)
      refine BO.out.mono ?_
      rintro e w' ⟨rfl, rfl⟩
      clear BO hw5
      go_wp2_with (fail)
      have L0 : ∀ y : World, Below w5.drew.heap.size w5.drew y → y.cell? ⟨w.heap.size, 0, none⟩ = some (.int .i64 o) := fun y hy => (txcell ((HF5.keep (Below.refl _ _).drew).keep hy).box 0 _ rfl).1
      have L1 : ∀ y : World, Below w5.drew.heap.size w5.drew y → y.cell? ⟨w4.heap.size, 0, none⟩ = some (.slice no mm c) := fun y hy => (txcell ((hR5.keep (Below.refl _ _).drew).keep hy) 0 _ rfl).1
      have L2 : ∀ y : World, Below w5.drew.heap.size w5.drew y → y.cell? ⟨w4.heap.size, 1, none⟩ = some (.slice (some ⟨g, 0, none⟩) mm d) := fun y hy => (txcell ((hR5.keep (Below.refl _ _).drew).keep hy) 1 _ rfl).1
      have L3 : ∀ y : World, Below w5.drew.heap.size w5.drew y → y.cell? ⟨w.heap.size, 2, none⟩ = some (.int .i64 m) := fun y hy => (txcell ((HF5.keep (Below.refl _ _).drew).keep hy).box 2 _ rfl).1
      have hrr : ∀ y : World, Below y.heap.size y y := fun y => Below.refl _ _
      refine wp_region_lastL (GT [(41, .pointer (some ⟨w.heap.size, 0, none⟩)), (42, .int .i64 o), (43, .int .i64 (kdOf o)), (44, .pointer (some ⟨w4.heap.size, 0, none⟩)), (45, .slice no mm c), (46, .pointer (some ⟨w4.heap.size, 1, none⟩)), (47, .slice (some ⟨g, 0, none⟩) mm d), (48, .int .i64 (bdOf o D.k)), (49, .pointer (some ⟨w.heap.size, 2, none⟩)), (50, .int .i64 m), (51, nrV (kdOf o) (bdOf o D.k) m no (some ⟨g, 0, none⟩) mm c mm d)] (fun v y => ∃ p, v = .pointer (some ⟨p, 0, none⟩) ∧ w5.heap.size ≤ p ∧ Rb y p zN 44)) (fun x y => Below x.heap.size x y) [41, 42, 43, 44, 45, 46, 47, 48, 49, 50, 51, 8] 12 (by kernel_rfl) (by kernel_rfl) hrr (fun x y z h k => bt2 h k) (by kernel_rfl) (by kernel_rfl) ?_ ?_ ?_
      · exact gt_keep (fun v y z ⟨p, e, hp, hR⟩ hb => ⟨p, e, hp, hR.keep hb⟩)
      · intro k o hk ho
        have hk' : k < 12 := hk
        rcases (show k = 0 ∨ k = 1 ∨ k = 2 ∨ k = 3 ∨ k = 4 ∨ k = 5 ∨ k = 6 ∨ k = 7 ∨ k = 8 ∨ k = 9 ∨ k = 10 ∨ k = 11 by omega) with rfl | rfl | rfl | rfl | rfl | rfl | rfl | rfl | rfl | rfl | rfl | rfl
        · have ho' : some _ = some o := ho
          cases ho'
          refine rlstep_of fun a w6 hold hdep hrel K hK => ?_
          have e1 := (hold 1 (by decide)).trans (show _ = some (.pointer (some ⟨w.heap.size, 0, none⟩)) from rfl)
          have h1 := eval_tmp9 e1
          unfold Oper.wp
          simp only [execOp, h1]
          go_simp
          exact hK _ _ (fun d hd => by cases (show some 41 = some d from hd); exact rfl) (hrr _)
        · have ho' : some _ = some o := ho
          cases ho'
          refine rlstep_of fun a w6 hold hdep hrel K hK => ?_
          obtain ⟨u41, e41, g41⟩ := hdep _ (Array.mem_of_getElem? (i := 0) rfl) _ _ rfl rfl rfl
          obtain rfl : u41 = .pointer (some ⟨w.heap.size, 0, none⟩) := g41
          have h41 := eval_tmp9 e41
          unfold Oper.wp
          simp only [execOp, h41]
          have hf := L0 w6 hrel
          go_simp
          exact hK _ _ (fun d hd => by cases (show some 42 = some d from hd); exact rfl) (hrr _)
        · have ho' : some _ = some o := ho
          cases ho'
          refine rlstep_of fun a w6 hold hdep hrel K hK => ?_
          obtain ⟨u42, e42, g42⟩ := hdep _ (Array.mem_of_getElem? (i := 0) rfl) _ _ rfl rfl rfl
          obtain rfl : u42 = .int .i64 o := g42
          have h42 := eval_tmp9 e42
          unfold Oper.wp
          simp only [execOp, h42]
          go_simp
          refine (KO.out w6).mono ?_
          rintro e w7 ⟨rfl, rfl⟩
          exact hK _ _ (fun d hd => by cases (show some 43 = some d from hd); exact rfl) (hrr _)
        · have ho' : some _ = some o := ho
          cases ho'
          refine rlstep_of fun a w6 hold hdep hrel K hK => ?_
          have e5 := (hold 5 (by decide)).trans (show _ = some (.pointer (some ⟨w4.heap.size, 0, none⟩)) from rfl)
          have h5 := eval_tmp9 e5
          unfold Oper.wp
          simp only [execOp, h5]
          go_simp
          exact hK _ _ (fun d hd => by cases (show some 44 = some d from hd); exact rfl) (hrr _)
        · have ho' : some _ = some o := ho
          cases ho'
          refine rlstep_of fun a w6 hold hdep hrel K hK => ?_
          obtain ⟨u44, e44, g44⟩ := hdep _ (Array.mem_of_getElem? (i := 0) rfl) _ _ rfl rfl rfl
          obtain rfl : u44 = .pointer (some ⟨w4.heap.size, 0, none⟩) := g44
          have h44 := eval_tmp9 e44
          unfold Oper.wp
          simp only [execOp, h44]
          have hf := L1 w6 hrel
          go_simp
          exact hK _ _ (fun d hd => by cases (show some 45 = some d from hd); exact rfl) (hrr _)
        · have ho' : some _ = some o := ho
          cases ho'
          refine rlstep_of fun a w6 hold hdep hrel K hK => ?_
          have e5 := (hold 5 (by decide)).trans (show _ = some (.pointer (some ⟨w4.heap.size, 0, none⟩)) from rfl)
          have h5 := eval_tmp9 e5
          unfold Oper.wp
          simp only [execOp, h5]
          go_simp
          exact hK _ _ (fun d hd => by cases (show some 46 = some d from hd); exact rfl) (hrr _)
        · have ho' : some _ = some o := ho
          cases ho'
          refine rlstep_of fun a w6 hold hdep hrel K hK => ?_
          obtain ⟨u46, e46, g46⟩ := hdep _ (Array.mem_of_getElem? (i := 0) rfl) _ _ rfl rfl rfl
          obtain rfl : u46 = .pointer (some ⟨w4.heap.size, 1, none⟩) := g46
          have h46 := eval_tmp9 e46
          unfold Oper.wp
          simp only [execOp, h46]
          have hf := L2 w6 hrel
          go_simp
          exact hK _ _ (fun d hd => by cases (show some 47 = some d from hd); exact rfl) (hrr _)
        · have ho' : some _ = some o := ho
          cases ho'
          refine rlstep_of fun a w6 hold hdep hrel K hK => ?_
          have e7 := (hold 7 (by decide)).trans (show _ = some (.int .i64 (bdOf o D.k)) from rfl)
          have h7 := eval_tmp9 e7
          unfold Oper.wp
          simp only [execOp, h7]
          go_simp
          exact hK _ _ (fun d hd => by cases (show some 48 = some d from hd); exact rfl) (hrr _)
        · have ho' : some _ = some o := ho
          cases ho'
          refine rlstep_of fun a w6 hold hdep hrel K hK => ?_
          have e1 := (hold 1 (by decide)).trans (show _ = some (.pointer (some ⟨w.heap.size, 0, none⟩)) from rfl)
          have h1 := eval_tmp9 e1
          unfold Oper.wp
          simp only [execOp, h1]
          go_simp
          exact hK _ _ (fun d hd => by cases (show some 49 = some d from hd); exact rfl) (hrr _)
        · have ho' : some _ = some o := ho
          cases ho'
          refine rlstep_of fun a w6 hold hdep hrel K hK => ?_
          obtain ⟨u49, e49, g49⟩ := hdep _ (Array.mem_of_getElem? (i := 0) rfl) _ _ rfl rfl rfl
          obtain rfl : u49 = .pointer (some ⟨w.heap.size, 2, none⟩) := g49
          have h49 := eval_tmp9 e49
          unfold Oper.wp
          simp only [execOp, h49]
          have hf := L3 w6 hrel
          go_simp
          exact hK _ _ (fun d hd => by cases (show some 50 = some d from hd); exact rfl) (hrr _)
        · have ho' : some _ = some o := ho
          cases ho'
          refine rlstep_of fun a w6 hold hdep hrel K hK => ?_
          obtain ⟨u43, e43, g43⟩ := hdep _ (Array.mem_of_getElem? (i := 0) rfl) _ _ rfl rfl rfl
          obtain rfl : u43 = .int .i64 (kdOf o) := g43
          have h43 := eval_tmp9 e43
          obtain ⟨u45, e45, g45⟩ := hdep _ (Array.mem_of_getElem? (i := 1) rfl) _ _ rfl rfl rfl
          obtain rfl : u45 = .slice no mm c := g45
          have h45 := eval_tmp9 e45
          obtain ⟨u47, e47, g47⟩ := hdep _ (Array.mem_of_getElem? (i := 2) rfl) _ _ rfl rfl rfl
          obtain rfl : u47 = .slice (some ⟨g, 0, none⟩) mm d := g47
          have h47 := eval_tmp9 e47
          obtain ⟨u48, e48, g48⟩ := hdep _ (Array.mem_of_getElem? (i := 3) rfl) _ _ rfl rfl rfl
          obtain rfl : u48 = .int .i64 (bdOf o D.k) := g48
          have h48 := eval_tmp9 e48
          obtain ⟨u50, e50, g50⟩ := hdep _ (Array.mem_of_getElem? (i := 4) rfl) _ _ rfl rfl rfl
          obtain rfl : u50 = .int .i64 m := g50
          have h50 := eval_tmp9 e50
          unfold Oper.wp
          simp only [execOp, h43, h45, h47, h48, h50]
          go_simp
          exact hK _ _ (fun d hd => by cases (show some 51 = some d from hd); exact rfl) (hrr _)
        · have ho' : some _ = some o := ho
          cases ho'
          refine rlstep_of fun a w6 hold hdep hrel K hK => ?_
          unfold Oper.wp
          simp only [execOp]
          go_simp
          exact hK _ _ (fun d hd => by cases (show some 8 = some d from hd); exact ⟨w6.heap.size, rfl, hrel.size, rb_new w6 zN _⟩) (bal w6 _)
      · intro vs w6 o' ho' hrel hG
        have v41 : vs 41 = .pointer (some ⟨w.heap.size, 0, none⟩) := hG 41 (by decide)
        have v42 : vs 42 = .int .i64 o := hG 42 (by decide)
        have v43 : vs 43 = .int .i64 (kdOf o) := hG 43 (by decide)
        have v44 : vs 44 = .pointer (some ⟨w4.heap.size, 0, none⟩) := hG 44 (by decide)
        have v45 : vs 45 = .slice no mm c := hG 45 (by decide)
        have v46 : vs 46 = .pointer (some ⟨w4.heap.size, 1, none⟩) := hG 46 (by decide)
        have v47 : vs 47 = .slice (some ⟨g, 0, none⟩) mm d := hG 47 (by decide)
        have v48 : vs 48 = .int .i64 (bdOf o D.k) := hG 48 (by decide)
        have v49 : vs 49 = .pointer (some ⟨w.heap.size, 2, none⟩) := hG 49 (by decide)
        have v50 : vs 50 = .int .i64 m := hG 50 (by decide)
        have v51 : vs 51 = nrV (kdOf o) (bdOf o D.k) m no (some ⟨g, 0, none⟩) mm c mm d := hG 51 (by decide)
        obtain ⟨p, v8, hpl, hRp⟩ : ∃ p, vs 8 = .pointer (some ⟨p, 0, none⟩) ∧ w5.heap.size ≤ p ∧ Rb w6 p zN 44 := hG 8 (by decide)
        have ho'' : some _ = some o' := ho'
        cases ho''
        have hDR : Below w5.heap.size w5 w6 := bt2 (Below.refl _ _).drew hrel
        have HF6 := HF5.keep hDR
        have hN6 := hN5.below (Nat.le_refl _) hDR
        have hO6 := owns_below hO5 hDR
        have hRn := rb_five hRp rfl (.int .i64 (kdOf o)) (.slice no mm c) (.slice (some ⟨g, 0, none⟩) mm d) (.int .i64 (bdOf o D.k)) (.int .i64 m)
        have hBn := bel_st5n (B := p) hDR (by omega) (.int .i64 (kdOf o)) (.slice no mm c) (.slice (some ⟨g, 0, none⟩) mm d) (.int .i64 (bdOf o D.k)) (.int .i64 m)
        have HF7 := HF5.keep hBn
        have hN7 := hN5.below (Nat.le_refl _) hBn
        have hO7 := owns_below hO5 hBn
        have z0 : w6.cell? ⟨p, 0, none⟩ = some (.int .i64 0) ∧ w6.frozen? ⟨p, 0, none⟩ = false := txcell (vs := zN) hRp 0 _ rfl
        have z1 : w6.cell? ⟨p, 1, none⟩ = some (.slice none 0 0) ∧ w6.frozen? ⟨p, 1, none⟩ = false := txcell (vs := zN) hRp 1 _ rfl
        have z2 : w6.cell? ⟨p, 2, none⟩ = some (.slice none 0 0) ∧ w6.frozen? ⟨p, 2, none⟩ = false := txcell (vs := zN) hRp 2 _ rfl
        have z3 : w6.cell? ⟨p, 3, none⟩ = some (.int .i64 0) ∧ w6.frozen? ⟨p, 3, none⟩ = false := txcell (vs := zN) hRp 3 _ rfl
        have z4 : w6.cell? ⟨p, 4, none⟩ = some (.int .i64 0) ∧ w6.frozen? ⟨p, 4, none⟩ = false := txcell (vs := zN) hRp 4 _ rfl
        simp only [putR, v41, v42, v43, v44, v45, v46, v47, v48, v49, v50, v51, v8]
        clear v41 v42 v43 v44 v45 v46 v47 v48 v49 v50 v51 v8 hG hrel L0 L1 L2 L3 hN6 hO6 HF6 hDR
        unfold Oper.wp
        simp only [execOp]
        go_simp
        have hs7 : p + 1 ≤ w6.heap.size := (Array.getElem?_eq_some_iff.1 hRp).1
        have hs7' := hBn.size
        have hHi : ∀ y : World, Bux g (st5 w6 p (.int .i64 (kdOf o)) (.slice no mm c) (.slice (some ⟨g, 0, none⟩) mm d) (.int .i64 (bdOf o D.k)) (.int .i64 m)) y → p < y.heap.size := fun y hy => by
          have h1 := hy.size
          have h2 : w6.heap.size ≤ (st5 w6 p (.int .i64 (kdOf o)) (.slice no mm c) (.slice (some ⟨g, 0, none⟩) mm d) (.int .i64 (bdOf o D.k)) (.int .i64 m)).heap.size := by simp
          omega
        clear hs7 hs7' z0 z1 z2 z3 z4 b0 b2 e0 e1 e2 hRp HF5 hR5 hO5
        dsimp only [st5, st4] at hBn HF7 hN7 hO7 hRn hHi
        generalize (((((w6.setCell ⟨p, 0, none⟩ (.int .i64 (kdOf o))).setCell ⟨p, 1, none⟩ (.slice no mm c)).setCell ⟨p, 2, none⟩ (.slice (some ⟨g, 0, none⟩) mm d)).setCell ⟨p, 3, none⟩ (.int .i64 (bdOf o D.k))).setCell ⟨p, 4, none⟩ (.int .i64 m)) = w7 at hRn hBn HF7 hN7 hO7 hHi ⊢
        have hXp : w.heap.size + 1 ≠ p := by omega
        have hgX : w.heap.size + 1 ≠ g := by omega
        have hgp : p ≠ g := by omega
        have hnoX : ∀ ad, no = some ad → ad.block ≠ w.heap.size + 1 := fun ad e => by have := hNA ad e; omega
        by_cases h15 : o = 15
        · have e1 : kdOf o = 2 := by rw [h15]; rfl
          have e2 : bdOf o D.k = -D.k := by rw [h15]; rfl
          have hm1 : 1 ≤ m := HMD.out.1 h15
          have HNR : Hid (nrOf o m D = ⟨2, D.ns, D.cs.map (fun z => z % m), (-D.k) % m, m⟩) := by show _ = _; unfold nrOf; rw [if_pos h15]
          rw [e1, e2] at hRn
          rw [e2] at hbI
          have RC := mkHid (rests_at 0 2 (-D.k) m w3.heap.size no mm c mm d g D.cs w7 hO7 HCI.out hbI hm1 him.2 (by omega) (by have := hBn.size; omega))
          have n0 : w7.cell? ⟨p, 0, none⟩ = some (.int .i64 2) ∧ w7.frozen? ⟨p, 0, none⟩ = false := txcell (vs := nrA 2 (-D.k) m no (some ⟨g, 0, none⟩) mm c mm d) hRn 0 _ rfl
          have n1 : w7.cell? ⟨p, 1, none⟩ = some (.slice no mm c) ∧ w7.frozen? ⟨p, 1, none⟩ = false := txcell (vs := nrA 2 (-D.k) m no (some ⟨g, 0, none⟩) mm c mm d) hRn 1 _ rfl
          have n2 : w7.cell? ⟨p, 2, none⟩ = some (.slice (some ⟨g, 0, none⟩) mm d) ∧ w7.frozen? ⟨p, 2, none⟩ = false := txcell (vs := nrA 2 (-D.k) m no (some ⟨g, 0, none⟩) mm c mm d) hRn 2 _ rfl
          have n3 : w7.cell? ⟨p, 3, none⟩ = some (.int .i64 (-D.k)) ∧ w7.frozen? ⟨p, 3, none⟩ = false := txcell (vs := nrA 2 (-D.k) m no (some ⟨g, 0, none⟩) mm c mm d) hRn 3 _ rfl
          have n4 : w7.cell? ⟨p, 4, none⟩ = some (.int .i64 m) ∧ w7.frozen? ⟨p, 4, none⟩ = false := txcell (vs := nrA 2 (-D.k) m no (some ⟨g, 0, none⟩) mm c mm d) hRn 4 _ rfl
          clear e1 e2 hO7 h15 HMD
          go_wp2_with (fail)
          refine RC.out.mono ?_
          rintro e w8 ⟨rfl, hO8, hX8⟩
          have hp8 := hHi w8 hX8
          have hR8 := hRn.but hX8 hgp
          have hB8 : Below w.heap.size w w8 := HF7.bel.trans (hX8.below (by omega) HF7.bel.size)
          have hRes8 := HF7.res.but hX8 hgX
          have hR9' := rb_five hR8 rfl (.int .i64 2) (.slice no mm c) (.slice (some ⟨g, 0, none⟩) mm d) (.int .i64 ((-D.k) % m)) (.int .i64 m)
          have hRes9 := hRes8.st5 (X := p) hXp (.int .i64 2) (.slice no mm c) (.slice (some ⟨g, 0, none⟩) mm d) (.int .i64 ((-D.k) % m)) (.int .i64 m)
          have hB9' := bel_st5n (B := p) hB8 (by omega) (.int .i64 2) (.slice no mm c) (.slice (some ⟨g, 0, none⟩) mm d) (.int .i64 ((-D.k) % m)) (.int .i64 m)
          have hN9 := rds_bux hN5 (but_new (Bux.st4 ((Bux.of (b := g) hBn).trans hX8) hpl (.int .i64 2) (.slice no mm c) (.slice (some ⟨g, 0, none⟩) mm d) (.int .i64 ((-D.k) % m))) hpl 4 (.int .i64 m)) hNG
          have hZ9 := rdz_five (rdz_of_own2 hO8) (X := p) (fun ad e => by cases e; exact fun h => hgp h.symm) (.int .i64 2) (.slice no mm c) (.slice (some ⟨g, 0, none⟩) mm d) (.int .i64 ((-D.k) % m)) (.int .i64 m)
          have n0 : w8.cell? ⟨p, 0, none⟩ = some (.int .i64 2) ∧ w8.frozen? ⟨p, 0, none⟩ = false := txcell (vs := nrA 2 (-D.k) m no (some ⟨g, 0, none⟩) mm c mm d) hR8 0 _ rfl
          have n1 : w8.cell? ⟨p, 1, none⟩ = some (.slice no mm c) ∧ w8.frozen? ⟨p, 1, none⟩ = false := txcell (vs := nrA 2 (-D.k) m no (some ⟨g, 0, none⟩) mm c mm d) hR8 1 _ rfl
          have n2 : w8.cell? ⟨p, 2, none⟩ = some (.slice (some ⟨g, 0, none⟩) mm d) ∧ w8.frozen? ⟨p, 2, none⟩ = false := txcell (vs := nrA 2 (-D.k) m no (some ⟨g, 0, none⟩) mm c mm d) hR8 2 _ rfl
          have n3 : w8.cell? ⟨p, 3, none⟩ = some (.int .i64 (-D.k)) ∧ w8.frozen? ⟨p, 3, none⟩ = false := txcell (vs := nrA 2 (-D.k) m no (some ⟨g, 0, none⟩) mm c mm d) hR8 3 _ rfl
          have n4 : w8.cell? ⟨p, 4, none⟩ = some (.int .i64 m) ∧ w8.frozen? ⟨p, 4, none⟩ = false := txcell (vs := nrA 2 (-D.k) m no (some ⟨g, 0, none⟩) mm c mm d) hR8 4 _ rfl
          have hIc : ∀ z ∈ D.cs.map (fun z => z % m), I64 z := fun z hz => by
            obtain ⟨y, -, rfl⟩ := List.mem_map.1 hz
            have h1 := Int.emod_nonneg y (show m ≠ 0 by omega)
            have h2 := Int.emod_lt_of_pos y (show 0 < m by omega)
            have h3 := him.2
            exact ⟨by omega, by omega⟩
          have hIb : I64 ((-D.k) % m) := by
            have h1 := Int.emod_nonneg (-D.k) (show m ≠ 0 by omega)
            have h2 := Int.emod_lt_of_pos (-D.k) (show 0 < m by omega)
            have h3 := him.2
            exact ⟨by omega, by omega⟩
          obtain ⟨r, hr⟩ := bool_of (tight (nrOf o m D))
          have hr' : r = true ↔ Chk.tot (D.cs.map (fun z => z % m)) + ((-D.k) % m).natAbs ≤ 9223372036854775807 := by rw [hr, HNR.out]; exact Iff.rfl
          have NC := mkHid (narrow_at 2 ((-D.k) % m) m no (some ⟨g, 0, none⟩) mm c mm d (D.cs.map (fun z => z % m)) r _ hZ9 hIc (by unfold maxLen; omega) hIb hr')
          clear hO8 hR8 hRes8 hX8 hN7 hRn RC hN5
          go_wp2_with (fail)
          dsimp only [st5, st4] at hR9' hRes9 hB9' hN9 hZ9 NC
          generalize (((((w8.setCell ⟨p, 0, none⟩ (.int .i64 2)).setCell ⟨p, 1, none⟩ (.slice no mm c)).setCell ⟨p, 2, none⟩ (.slice (some ⟨g, 0, none⟩) mm d)).setCell ⟨p, 3, none⟩ (.int .i64 ((-D.k) % m))).setCell ⟨p, 4, none⟩ (.int .i64 m)) = w9 at hR9' hRes9 hB9' hN9 hZ9 NC ⊢
          clear n0 n1 n2 n3 n4
          refine NC.out.mono ?_
          rintro e w10 ⟨rfl, hB10⟩
          have hRm := hR9'.keep hB10
          have hRes := hRes9.keep hB10
          have hBa := bt2 hB9' hB10
          have hNa := hN9.below (Nat.le_refl _) hB10
          have hZa := hZ9.below (Nat.le_refl _) hB10
          obtain ⟨r0, s0⟩ := txcell (vs := zN) hRes 0 _ rfl
          obtain ⟨r1, s1⟩ := txcell (vs := zN) hRes 1 _ rfl
          obtain ⟨r2, s2⟩ := txcell (vs := zN) hRes 2 _ rfl
          obtain ⟨r3, s3⟩ := txcell (vs := zN) hRes 3 _ rfl
          obtain ⟨r4, s4⟩ := txcell (vs := zN) hRes 4 _ rfl
          cases r with
          | true =>
            have HP := mkHid (HP0.out.trans (HTO.out (hr.1 rfl)))
            have n0 : w10.cell? ⟨p, 0, none⟩ = some (.int .i64 2) := (txcell (vs := nrA 2 ((-D.k) % m) m no (some ⟨g, 0, none⟩) mm c mm d) hRm 0 _ rfl).1
            have n1 : w10.cell? ⟨p, 1, none⟩ = some (.slice no mm c) := (txcell (vs := nrA 2 ((-D.k) % m) m no (some ⟨g, 0, none⟩) mm c mm d) hRm 1 _ rfl).1
            have n2 : w10.cell? ⟨p, 2, none⟩ = some (.slice (some ⟨g, 0, none⟩) mm d) := (txcell (vs := nrA 2 ((-D.k) % m) m no (some ⟨g, 0, none⟩) mm c mm d) hRm 2 _ rfl).1
            have n3 : w10.cell? ⟨p, 3, none⟩ = some (.int .i64 ((-D.k) % m)) := (txcell (vs := nrA 2 ((-D.k) % m) m no (some ⟨g, 0, none⟩) mm c mm d) hRm 3 _ rfl).1
            have n4 : w10.cell? ⟨p, 4, none⟩ = some (.int .i64 m) := (txcell (vs := nrA 2 ((-D.k) % m) m no (some ⟨g, 0, none⟩) mm c mm d) hRm 4 _ rfl).1
            have hRz := rb_five hRes rfl (.int .i64 2) (.slice no mm c) (.slice (some ⟨g, 0, none⟩) mm d) (.int .i64 ((-D.k) % m)) (.int .i64 m)
            have hBz := mkHid (bel_st5n (B := w.heap.size + 1) hBa (by omega) (.int .i64 2) (.slice no mm c) (.slice (some ⟨g, 0, none⟩) mm d) (.int .i64 ((-D.k) % m)) (.int .i64 m))
            have hNz := mkHid (rds_five hNa hnoX (.int .i64 2) (.slice no mm c) (.slice (some ⟨g, 0, none⟩) mm d) (.int .i64 ((-D.k) % m)) (.int .i64 m))
            have hZz := mkHid (rdz_five hZa (X := w.heap.size + 1) (fun ad e => by cases e; exact fun h => hgX h.symm) (.int .i64 2) (.slice no mm c) (.slice (some ⟨g, 0, none⟩) mm d) (.int .i64 ((-D.k) % m)) (.int .i64 m))
            clear hr hr' HTW HTO HP0 hNa hZa NC
            go_wp2_with (fail)
            obtain ⟨k0, -⟩ := txcell (vs := nrA 2 ((-D.k) % m) m no (some ⟨g, 0, none⟩) mm c mm d) hRz 0 _ rfl
            obtain ⟨k1, -⟩ := txcell (vs := nrA 2 ((-D.k) % m) m no (some ⟨g, 0, none⟩) mm c mm d) hRz 1 _ rfl
            obtain ⟨k2, -⟩ := txcell (vs := nrA 2 ((-D.k) % m) m no (some ⟨g, 0, none⟩) mm c mm d) hRz 2 _ rfl
            obtain ⟨k3, -⟩ := txcell (vs := nrA 2 ((-D.k) % m) m no (some ⟨g, 0, none⟩) mm c mm d) hRz 3 _ rfl
            obtain ⟨k4, -⟩ := txcell (vs := nrA 2 ((-D.k) % m) m no (some ⟨g, 0, none⟩) mm c mm d) hRz 4 _ rfl
            exact bodyPost_ret (v := .tuple #[nrV 2 ((-D.k) % m) m no (some ⟨g, 0, none⟩) mm c mm d, .int .i64 0]) (by simp [results, Tryz.results10, go_sem, k0, k1, k2, k3, k4]) rfl ⟨_, rfl, by rw [HP.out, HNR.out]; exact ⟨no, some ⟨g, 0, none⟩, mm, c, mm, d, rfl, ⟨hNz.out, hZz.out, HSH.out, hIc, hIb, by unfold maxLen; omega⟩, hNA.mono (by omega), fun ad e => by cases e; show w.heap.size ≤ g; omega⟩, hBz.out⟩
          | false =>
            have HP := mkHid (HP0.out.trans (HTW.out (fun h => by have := hr.2 h; cases this)))
            have hR9 := rb_five hRes rfl (.int .i64 0) (.slice none 0 0) (.slice none 0 0) (.int .i64 0) (.int .i64 0)
            have hB9 := mkHid (bel_st5n (B := w.heap.size + 1) hBa (by omega) (.int .i64 0) (.slice none 0 0) (.slice none 0 0) (.int .i64 0) (.int .i64 0))
            clear hr hr' HTW HTO HP0 hNa hZa NC
            go_wp2_with (fail)
            obtain ⟨k0, -⟩ := txcell (vs := zN) hR9 0 _ rfl
            obtain ⟨k1, -⟩ := txcell (vs := zN) hR9 1 _ rfl
            obtain ⟨k2, -⟩ := txcell (vs := zN) hR9 2 _ rfl
            obtain ⟨k3, -⟩ := txcell (vs := zN) hR9 3 _ rfl
            obtain ⟨k4, -⟩ := txcell (vs := zN) hR9 4 _ rfl
            exact bodyPost_ret (v := .tuple #[.agg zN, .int .i64 91]) (by simp [results, Tryz.results10, go_sem, k0, k1, k2, k3, k4]) rfl ⟨_, rfl, by rw [HP.out]; rfl, hB9.out⟩
        · obtain ⟨kd, hkd, hkd2⟩ : ∃ kd, kdOf o = kd ∧ (kd == 2) = false := by
            refine ⟨_, rfl, ?_⟩
            unfold kdOf
            split
            · rfl
            · first | rfl | (rw [if_neg h15]; rfl)
          have HNR : Hid (nrOf o m D = ⟨kd, D.ns, D.cs, bdOf o D.k, m⟩) := by show _ = _; unfold nrOf; rw [if_neg h15, hkd]
          rw [hkd] at hRn
          rw [hkd]
          generalize hbd : bdOf o D.k = bd at *
          obtain ⟨r, hr⟩ := bool_of (tight (nrOf o m D))
          have hr' : r = true ↔ Chk.tot D.cs + bd.natAbs ≤ 9223372036854775807 := by rw [hr, HNR.out]; exact Iff.rfl
          have hZ9 := rdz_of_own2 hO7
          have NC := mkHid (narrow_at kd bd m no (some ⟨g, 0, none⟩) mm c mm d D.cs r w7 hZ9 HCI.out (by unfold maxLen; omega) hbI hr')
          have n0 : w7.cell? ⟨p, 0, none⟩ = some (.int .i64 kd) := (txcell (vs := nrA kd bd m no (some ⟨g, 0, none⟩) mm c mm d) hRn 0 _ rfl).1
          have n1 : w7.cell? ⟨p, 1, none⟩ = some (.slice no mm c) := (txcell (vs := nrA kd bd m no (some ⟨g, 0, none⟩) mm c mm d) hRn 1 _ rfl).1
          have n2 : w7.cell? ⟨p, 2, none⟩ = some (.slice (some ⟨g, 0, none⟩) mm d) := (txcell (vs := nrA kd bd m no (some ⟨g, 0, none⟩) mm c mm d) hRn 2 _ rfl).1
          have n3 : w7.cell? ⟨p, 3, none⟩ = some (.int .i64 bd) := (txcell (vs := nrA kd bd m no (some ⟨g, 0, none⟩) mm c mm d) hRn 3 _ rfl).1
          have n4 : w7.cell? ⟨p, 4, none⟩ = some (.int .i64 m) := (txcell (vs := nrA kd bd m no (some ⟨g, 0, none⟩) mm c mm d) hRn 4 _ rfl).1
          have hR9' := hRn
          have hRes9 := HF7.res
          have hB9' := HF7.bel
          have hN9 := hN7
          have hIc := HCI.out
          have hIb := hbI
          clear hkd h15 hO7 hHi HMD
          go_wp2_with (fail)
          clear n0 n1 n2 n3 n4
          generalize w7 = w9 at hR9' hRes9 hB9' hN9 hZ9 NC ⊢
          refine NC.out.mono ?_
          rintro e w10 ⟨rfl, hB10⟩
          have hRm := hR9'.keep hB10
          have hRes := hRes9.keep hB10
          have hBa := bt2 hB9' hB10
          have hNa := hN9.below (Nat.le_refl _) hB10
          have hZa := hZ9.below (Nat.le_refl _) hB10
          obtain ⟨r0, s0⟩ := txcell (vs := zN) hRes 0 _ rfl
          obtain ⟨r1, s1⟩ := txcell (vs := zN) hRes 1 _ rfl
          obtain ⟨r2, s2⟩ := txcell (vs := zN) hRes 2 _ rfl
          obtain ⟨r3, s3⟩ := txcell (vs := zN) hRes 3 _ rfl
          obtain ⟨r4, s4⟩ := txcell (vs := zN) hRes 4 _ rfl
          cases r with
          | true =>
            have HP := mkHid (HP0.out.trans (HTO.out (hr.1 rfl)))
            have n0 : w10.cell? ⟨p, 0, none⟩ = some (.int .i64 kd) := (txcell (vs := nrA kd bd m no (some ⟨g, 0, none⟩) mm c mm d) hRm 0 _ rfl).1
            have n1 : w10.cell? ⟨p, 1, none⟩ = some (.slice no mm c) := (txcell (vs := nrA kd bd m no (some ⟨g, 0, none⟩) mm c mm d) hRm 1 _ rfl).1
            have n2 : w10.cell? ⟨p, 2, none⟩ = some (.slice (some ⟨g, 0, none⟩) mm d) := (txcell (vs := nrA kd bd m no (some ⟨g, 0, none⟩) mm c mm d) hRm 2 _ rfl).1
            have n3 : w10.cell? ⟨p, 3, none⟩ = some (.int .i64 bd) := (txcell (vs := nrA kd bd m no (some ⟨g, 0, none⟩) mm c mm d) hRm 3 _ rfl).1
            have n4 : w10.cell? ⟨p, 4, none⟩ = some (.int .i64 m) := (txcell (vs := nrA kd bd m no (some ⟨g, 0, none⟩) mm c mm d) hRm 4 _ rfl).1
            have hRz := rb_five hRes rfl (.int .i64 kd) (.slice no mm c) (.slice (some ⟨g, 0, none⟩) mm d) (.int .i64 bd) (.int .i64 m)
            have hBz := mkHid (bel_st5n (B := w.heap.size + 1) hBa (by omega) (.int .i64 kd) (.slice no mm c) (.slice (some ⟨g, 0, none⟩) mm d) (.int .i64 bd) (.int .i64 m))
            have hNz := mkHid (rds_five hNa hnoX (.int .i64 kd) (.slice no mm c) (.slice (some ⟨g, 0, none⟩) mm d) (.int .i64 bd) (.int .i64 m))
            have hZz := mkHid (rdz_five hZa (X := w.heap.size + 1) (fun ad e => by cases e; exact fun h => hgX h.symm) (.int .i64 kd) (.slice no mm c) (.slice (some ⟨g, 0, none⟩) mm d) (.int .i64 bd) (.int .i64 m))
            clear hr hr' HTW HTO HP0 hNa hZa NC
            go_wp2_with (fail)
            obtain ⟨k0, -⟩ := txcell (vs := nrA kd bd m no (some ⟨g, 0, none⟩) mm c mm d) hRz 0 _ rfl
            obtain ⟨k1, -⟩ := txcell (vs := nrA kd bd m no (some ⟨g, 0, none⟩) mm c mm d) hRz 1 _ rfl
            obtain ⟨k2, -⟩ := txcell (vs := nrA kd bd m no (some ⟨g, 0, none⟩) mm c mm d) hRz 2 _ rfl
            obtain ⟨k3, -⟩ := txcell (vs := nrA kd bd m no (some ⟨g, 0, none⟩) mm c mm d) hRz 3 _ rfl
            obtain ⟨k4, -⟩ := txcell (vs := nrA kd bd m no (some ⟨g, 0, none⟩) mm c mm d) hRz 4 _ rfl
            exact bodyPost_ret (v := .tuple #[nrV kd bd m no (some ⟨g, 0, none⟩) mm c mm d, .int .i64 0]) (by simp [results, Tryz.results10, go_sem, k0, k1, k2, k3, k4]) rfl ⟨_, rfl, by rw [HP.out, HNR.out]; exact ⟨no, some ⟨g, 0, none⟩, mm, c, mm, d, rfl, ⟨hNz.out, hZz.out, HSH.out, hIc, hIb, by unfold maxLen; omega⟩, hNA.mono (by omega), fun ad e => by cases e; show w.heap.size ≤ g; omega⟩, hBz.out⟩
          | false =>
            have HP := mkHid (HP0.out.trans (HTW.out (fun h => by have := hr.2 h; cases this)))
            have hR9 := rb_five hRes rfl (.int .i64 0) (.slice none 0 0) (.slice none 0 0) (.int .i64 0) (.int .i64 0)
            have hB9 := mkHid (bel_st5n (B := w.heap.size + 1) hBa (by omega) (.int .i64 0) (.slice none 0 0) (.slice none 0 0) (.int .i64 0) (.int .i64 0))
            clear hr hr' HTW HTO HP0 hNa hZa NC
            go_wp2_with (fail)
            obtain ⟨k0, -⟩ := txcell (vs := zN) hR9 0 _ rfl
            obtain ⟨k1, -⟩ := txcell (vs := zN) hR9 1 _ rfl
            obtain ⟨k2, -⟩ := txcell (vs := zN) hR9 2 _ rfl
            obtain ⟨k3, -⟩ := txcell (vs := zN) hR9 3 _ rfl
            obtain ⟨k4, -⟩ := txcell (vs := zN) hR9 4 _ rfl
            exact bodyPost_ret (v := .tuple #[.agg zN, .int .i64 91]) (by simp [results, Tryz.results10, go_sem, k0, k1, k2, k3, k4]) rfl ⟨_, rfl, by rw [HP.out]; rfl, hB9.out⟩
    · have BO := mkHid (boundOf_at o D.k w5 hkD 0 91 (.inr ⟨hb, rfl, rfl⟩))
      have HP := mkHid (HP0.out.trans (finS_no hb))
      go_wp2_with (fail)
      refine BO.out.mono ?_
      rintro e w' ⟨rfl, rfl⟩
      clear BO hw5 b0 b2 e0 e1 e2 hb HP0 HMD
      obtain ⟨r0, s0⟩ := txcell HF5.res 0 _ rfl
      obtain ⟨r1, s1⟩ := txcell HF5.res 1 _ rfl
      obtain ⟨r2, s2⟩ := txcell HF5.res 2 _ rfl
      obtain ⟨r3, s3⟩ := txcell HF5.res 3 _ rfl
      obtain ⟨r4, s4⟩ := txcell HF5.res 4 _ rfl
      have hR9 := rb_five HF5.res rfl (.int .i64 0) (.slice none 0 0) (.slice none 0 0) (.int .i64 0) (.int .i64 0)
      have hB9 := mkHid (bel_st5n (B := w.heap.size + 1) HF5.bel (by omega) (.int .i64 0) (.slice none 0 0) (.slice none 0 0) (.int .i64 0) (.int .i64 0))
      go_wp2_with (fail)
      obtain ⟨k0, -⟩ := txcell hR9 0 _ rfl
      obtain ⟨k1, -⟩ := txcell hR9 1 _ rfl
      obtain ⟨k2, -⟩ := txcell hR9 2 _ rfl
      obtain ⟨k3, -⟩ := txcell hR9 3 _ rfl
      obtain ⟨k4, -⟩ := txcell hR9 4 _ rfl
      exact bodyPost_ret (v := .tuple #[.agg zN, .int .i64 91]) (by simp [results, Tryz.results10, go_sem, k0, k1, k2, k3, k4]) rfl ⟨_, rfl, by rw [HP.out]; rfl, hB9.out⟩
end Go.Proofs.YtiapkblebbcfbaaGreat.Gl
