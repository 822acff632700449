/- The program's scale, product. -/
import Derived.Test.YtiapkblebbcfbaaGreatNtE
namespace Go.Proofs.YtiapkblebbcfbaaGreat.Gl
open Go.RowKit
set_option linter.unusedVariables false
set_option linter.unusedSimpArgs false

theorem scl_get (a : Sm) (n : Int) (k : Nat) (hk : k < a.cs.length) : (scl a n).cs.getD k 0 = a.cs.getD k 0 * n := by
  have hk' : k < (scl a n).cs.length := by simp [scl]; exact hk
  rw [getD_of hk', getD_of hk]
  simp [scl]
set_option maxRecDepth 100000 in
set_option maxHeartbeats 4000000 in
theorem scale_at (a : Sm) (z : Int) (nm : ByteArray → Bool) (ao aco : Option Addr) (an ac am ad : Nat) (w : World)
    (hA : RdSm w a ao aco an ac am ad) (gA : a.good nm 500) (hz : I64 z) :
    Calls Tryz.prog 66 #[sumV a ao aco an ac am ad, .int .i64 z] w fun e w' => ∃ v, e = .returned v ∧ LrS w.heap.size w' ao an ac (mkS (scl a z)) v ∧ Below w.heap.size w w' := by
  obtain ⟨ii, hi, hi0, hi1, hi2⟩ := info_parts Tryz.infoI64
  have hnA : an ≤ 500 := by have := gA.few; rw [hA.1.eqlen] at this; exact this
  have hmA : am = an := by rw [← hA.1.eqlen, ← hA.2.eqlen]; exact gA.len
  subst hmA
  have hka := Sm.fits.k gA.fit
  have HFA := mkHid (Sm.fits.c gA.fit)
  have HCLA : Hid (a.cs.length = am) := hA.2.eqlen
  have hcr := hA.2.lecap
  have hcx := hA.2.lemax
  have HG := mkHid (scl_get a z)
  have HCL : Hid ((scl a z).cs.length = am) := by show _ = _; simp [scl]; exact hA.2.eqlen
  have HNS : Hid ((scl a z).ns = a.ns) := rfl
  have HKK : Hid ((scl a z).k = a.k * z) := rfl
  have HFI := mkHid (fits_iff (scl a z))
  generalize scl a z = C at HG HCL HNS HKK HFI ⊢
  have hR1 := rb_new w #[.slice ao am ac, .slice aco am ad, .int .i64 a.k] 54
  have hB1 := bal w (.cells #[.slice ao am ac, .slice aco am ad, .int .i64 a.k] 54)
  generalize hw1 : w.alloc (.cells #[.slice ao am ac, .slice aco am ad, .int .i64 a.k] 54) = w1 at hR1 hB1
  have hs1 : w1.heap.size = w.heap.size + 1 := by rw [← hw1]; simp
  have hR2 := rb_new w1 zS 54
  have hB2 := bt2 hB1 (bal w1 (.cells zS 54))
  have hR12 := hR1.keep (bal w1 (.cells zS 54))
  generalize hw2 : w1.alloc (.cells zS 54) = w2 at hR2 hB2 hR12
  have hs2 : w2.heap.size = w.heap.size + 2 := by rw [← hw2]; simp [hs1]
  rw [hs1] at hR2
  have HW : Hid ((w.alloc (.cells #[.slice ao am ac, .slice aco am ad, .int .i64 a.k] 54)).alloc (.cells zS 54) = w2) := by rw [hw1, hw2]; exact rfl
  have hs2' : w.heap.size + 2 ≤ w2.heap.size := by omega
  clear hw1 hw2 hs1 hR1 hB1 gA hs2
  go_enter Tryz.func66, Tryz.ntmps66
  go_wp2_with (fail)
  have eW := HW.out
  unfold zS at eW
  rw [eW]
  clear eW HW
  by_cases h0 : in64 (a.k * z) = true
  · refine (mul_yes a.k z w2 hka hz h0).mono ?_
    rintro e w' ⟨rfl, rfl⟩
    obtain ⟨a1, -⟩ := txcell hR12 1 _ rfl
    go_wp2_with (at_make; refine wpList_make_full _ rfl _ _ 27 rfl w2.heap.size 2 ii (.int .i64 0) 1 Tryz.underlying27 hi hi0 hi1 _ _ _ _ am rfl rfl rfl rfl (by rw [hi2]; omega) (by unfold maxLen; omega) (Nat.le_refl _) ?_; intro w7 hown7 hg7; rw [made_zeros] at hown7; have hB7 : Below w2.heap.size w2 w7 := (Below.refl _ _).grown hg7 (Nat.le_refl _) (fun k h => by cases h); obtain ⟨b1, -⟩ := txcell (hR12.keep hB7) 1 _ rfl)
    go_loopw [28] (fun i wr => ∃ k : Nat, k ≤ am ∧ i = .int .i64 k ∧ wr.ownsRow w2.heap.size 2 1 (.slice (some ⟨w2.heap.size, 0, none⟩) am am) am (cellsZ (front C.cs (List.replicate am 0) k)) ∧ Below w2.heap.size w2 wr ∧ Hid (∀ j, j < k → in64 (C.cs.getD j 0) = true)) (fun i _ => am - (intOf i).toNat)
    case atStart => exact ⟨0, Nat.zero_le _, rfl, by rw [front_zero]; exact hown7, hB7, fun j hj => absurd hj (by omega)⟩
    case round =>
      clear hown7 hg7 hB7
      obtain ⟨k, hk, rfl, hO, hBr, hall⟩ := hrel
      have hd1 := hR12.keep hBr
      have hd2 := hR2.keep hBr
      have hB1r := bt2 hB2 hBr
      have hAr := hA.below hB1r
      have hne : w.heap.size + 1 ≠ w2.heap.size := by omega
      by_cases hlt : k < am
      · obtain ⟨g, o, rfl, hc0⟩ := hAr.2.cell k hlt
        have hgk := HG.out k (by rw [HCLA.out]; exact hlt)
        have hca : I64 (a.cs.getD k 0) := HFA.out _ (by rw [getD_of (by rw [HCLA.out]; exact hlt)]; exact List.getElem_mem _)
        generalize a.cs.getD k 0 = xa at hc0 hgk hca
        have HGK := mkHid hgk
        have hk1 : k < C.cs.length := by rw [HCL.out]; exact hlt
        have hoc := ownsZ_cell hO k hlt
        have hof := hO.frozenAt k
        have HST : Hid (∀ zv, (wr.setCell ⟨w2.heap.size, k, none⟩ (.int .i64 zv)).ownsRow w2.heap.size 2 1 (.slice (some ⟨w2.heap.size, 0, none⟩) am am) am (cellsZ ((front C.cs (List.replicate am 0) k).set k zv))) := fun zv => by
          have := (hO.stored k (.int .i64 zv)).1
          rw [cells_set] at this
          exact this
        have HBW : Hid (∀ zv, Below w2.heap.size w2 (wr.setCell ⟨w2.heap.size, k, none⟩ (.int .i64 zv))) := fun zv => hBr.setCell (p := ⟨w2.heap.size, k, none⟩) (Nat.le_refl _) _
        have HD2 : Hid (∀ zv, Rb (wr.setCell ⟨w2.heap.size, k, none⟩ (.int .i64 zv)) (w.heap.size + 1) zS 54) := fun zv => hd2.other hne k _
        clear hgk
        obtain ⟨a0, -⟩ := txcell hd1 1 _ rfl
        by_cases hy : in64 (xa * z) = true
        · have HALL : Hid (∀ j, j < k + 1 → in64 (C.cs.getD j 0) = true) := fun j hj => by
            rcases Nat.lt_or_ge j k with g | g
            · exact hall.out j g
            · rw [show j = k from by omega, HGK.out]; exact hy
          have hO2 := HST.out (xa * z)
          rw [show (front C.cs (List.replicate am 0) k).set k (xa * z) = front C.cs (List.replicate am 0) (k + 1) from by rw [← HGK.out]; exact front_set _ _ _ (by rw [HCL.out, List.length_replicate]) hk1] at hO2
          have hB2' := HBW.out (xa * z)
          have MC := mkHid (mul_yes xa z wr hca hz hy)
          clear hall HG HGK HST HBW HD2 HFI HKK HNS HFA hA hAr hy h0
          go_wp2_with (fail)
          refine MC.out.mono ?_
          rintro e w' ⟨rfl, rfl⟩
          go_wp2_with (fail)
          go_roundw
          case rel =>
            exact ⟨k + 1, by omega, by go_num, hO2, hB2', HALL⟩
          case measure => simp [intOf]; omega
        · have hy' : in64 (xa * z) = false := by simpa using hy
          have HE : Hid (mkS C = .er 91) := mkS_no (fun h => by have := ((HFI.out).1 h).2 k hk1; rw [HGK.out, hy'] at this; cases this)
          have hd2z := HD2.out 0
          have hB2' := bt2 hB2 (HBW.out 0)
          have MC := mkHid (mul_not xa z wr hca hz hy')
          have hR9 := rb_three hd2z rfl (.slice none 0 0) (.slice none 0 0) (.int .i64 0)
          have hB9 := bel_st3 (B := w.heap.size + 1) hB2' (by omega) (.slice none 0 0) (.slice none 0 0) (.int .i64 0)
          obtain ⟨r0, s0⟩ := txcell hd2z 0 _ rfl
          obtain ⟨r1, s1⟩ := txcell hd2z 1 _ rfl
          obtain ⟨r2, s2⟩ := txcell hd2z 2 _ rfl
          clear hall HG HGK HST HBW HD2 HFI HKK HNS HFA hA hAr hy h0 hy'
          go_wp2_with (fail)
          refine MC.out.mono ?_
          rintro e w' ⟨rfl, rfl⟩
          go_wp2_with (fail)
          obtain ⟨k0, -⟩ := txcell hR9 0 _ rfl
          obtain ⟨k1, -⟩ := txcell hR9 1 _ rfl
          obtain ⟨k2, -⟩ := txcell hR9 2 _ rfl
          exact bodyPost_ret (v := .tuple #[.agg zS, .int .i64 91]) (by simp [results, Tryz.results66, go_sem, k0, k1, k2]) rfl ⟨_, rfl, by rw [HE.out]; rfl, hB9⟩
      · obtain rfl : k = am := by omega
        have HE : Hid (mkS C = .ok C) := mkS_yes (HFI.out.2 ⟨by rw [HKK.out]; exact h0, fun j hj => hall.out j (by rw [HCL.out] at hj; exact hj)⟩)
        rw [front_all _ _ k HCL.out (by rw [List.length_replicate])] at hO
        have hR9 := rb_three hd2 rfl (.slice ao k ac) (.slice (some ⟨w2.heap.size, 0, none⟩) k k) (.int .i64 (a.k * z))
        have hB9 := bel_st3 (B := w.heap.size + 1) hB1r (by omega) (.slice ao k ac) (.slice (some ⟨w2.heap.size, 0, none⟩) k k) (.int .i64 (a.k * z))
        obtain ⟨a0, -⟩ := txcell hd1 0 _ rfl
        obtain ⟨r0, s0⟩ := txcell hd2 0 _ rfl
        obtain ⟨r1, s1⟩ := txcell hd2 1 _ rfl
        obtain ⟨r2, s2⟩ := txcell hd2 2 _ rfl
        have HO9 : Hid ((st3 wr (w.heap.size + 1) (.slice ao k ac) (.slice (some ⟨w2.heap.size, 0, none⟩) k k) (.int .i64 (a.k * z))).ownsRow w2.heap.size 2 1 (.slice (some ⟨w2.heap.size, 0, none⟩) k k) k (cellsZ C.cs)) := owns_st3 hO (fun g e => by cases e; show w2.heap.size ≠ _; omega) _ _ _
        clear HG hall HFI hA hAr HFA
        go_wp2
        obtain ⟨k0, -⟩ := txcell hR9 0 _ rfl
        obtain ⟨k1, -⟩ := txcell hR9 1 _ rfl
        obtain ⟨k2, -⟩ := txcell hR9 2 _ rfl
        refine bodyPost_ret (v := .tuple #[.agg #[.slice ao k ac, .slice (some ⟨w2.heap.size, 0, none⟩) k k, .int .i64 (a.k * z)], .int .i64 0]) (by simp [results, Tryz.results66, go_sem, k0, k1, k2]) rfl ⟨_, rfl, ?_, hB9⟩
        rw [HE.out]
        exact ⟨k, k, w2.heap.size, by rw [← HKK.out], owns_mono HO9.out (by omega)⟩
  · have h0' : in64 (a.k * z) = false := by simpa using h0
    refine (mul_not a.k z w2 hka hz h0').mono ?_
    rintro e w' ⟨rfl, rfl⟩
    have HF : Hid (mkS C = .er 91) := mkS_no (fun h => h0 (by rw [← HKK.out]; exact ((HFI.out).1 h).1))
    have hR4 := rb_three hR2 rfl (.slice none 0 0) (.slice none 0 0) (.int .i64 0)
    have hB4 := bel_st3 (B := w.heap.size + 1) hB2 (by omega) (.slice none 0 0) (.slice none 0 0) (.int .i64 0)
    obtain ⟨r0, s0⟩ := txcell hR2 0 _ rfl
    obtain ⟨r1, s1⟩ := txcell hR2 1 _ rfl
    obtain ⟨r2, s2⟩ := txcell hR2 2 _ rfl
    clear h0 h0' HG HFI
    go_wp2_with (fail)
    obtain ⟨k0, -⟩ := txcell hR4 0 _ rfl
    obtain ⟨k1, -⟩ := txcell hR4 1 _ rfl
    obtain ⟨k2, -⟩ := txcell hR4 2 _ rfl
    exact bodyPost_ret (v := .tuple #[.agg zS, .int .i64 91]) (by simp [results, Tryz.results66, go_sem, k0, k1, k2]) rfl ⟨_, rfl, by rw [HF.out]; rfl, hB4⟩
end Go.Proofs.YtiapkblebbcfbaaGreat.Gl
