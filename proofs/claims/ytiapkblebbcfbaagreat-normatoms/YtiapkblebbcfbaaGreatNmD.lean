/- The program's combine. -/
import Derived.Test.YtiapkblebbcfbaaGreatNtE
namespace Go.Proofs.YtiapkblebbcfbaaGreat.Gl
open Go.RowKit
set_option linter.unusedVariables false
set_option linter.unusedSimpArgs false

set_option maxRecDepth 100000 in
set_option maxHeartbeats 4000000 in
theorem combine_at (f : FuncId) (op : Int → Int → Int) (hop : OpC f op) (a b : Sm) (nm : ByteArray → Bool) (ao aco bo bco : Option Addr) (an ac am ad bn bc bm bd : Nat) (w : World)
    (hA : RdSm w a ao aco an ac am ad) (hB : RdSm w b bo bco bn bc bm bd) (gA : a.good nm 500) (gB : b.good nm 500) :
    Calls Tryz.prog 35 #[sumV a ao aco an ac am ad, sumV b bo bco bn bc bm bd, .func (.func f) #[] #[]] w fun e w' => ∃ v, e = .returned v ∧ LrN w.heap.size w' (mkS (cmb op a b)) v ∧ Below w.heap.size w w' := by
  obtain ⟨ii, hi, hi0, hi1, hi2⟩ := info_parts Tryz.infoI64
  have hnA : an ≤ 500 := by have := gA.few; rw [hA.1.eqlen] at this; exact this
  have hnB : bn ≤ 500 := by have := gB.few; rw [hB.1.eqlen] at this; exact this
  have hka := Sm.fits.k gA.fit
  have hkb := Sm.fits.k gB.fit
  have HOP := mkHid hop
  have CA : Hid (∀ w', Below w.heap.size w w' → ∀ x, Calls Tryz.prog 65 #[sumV a ao aco an ac am ad, .string x] w' fun e w'' => e = .returned (.int .i64 (cof x a.ns a.cs)) ∧ Below w'.heap.size w' w'') := fun w' hw x =>
    coef_at ao aco an ac am ad a a.k x w' ((hA.below hw).1) ((hA.below hw).2) gA.len gA.ris (by omega)
  have CB : Hid (∀ w', Below w.heap.size w w' → ∀ x, Calls Tryz.prog 65 #[sumV b bo bco bn bc bm bd, .string x] w' fun e w'' => e = .returned (.int .i64 (cof x b.ns b.cs)) ∧ Below w'.heap.size w' w'') := fun w' hw x =>
    coef_at bo bco bn bc bm bd b b.k x w' ((hB.below hw).1) ((hB.below hw).2) gB.len gB.ris (by omega)
  have hR1 := rb_new w #[.slice ao an ac, .slice aco am ad, .int .i64 a.k] 54
  have hB1 := bal w (.cells #[.slice ao an ac, .slice aco am ad, .int .i64 a.k] 54)
  generalize hw1 : w.alloc (.cells #[.slice ao an ac, .slice aco am ad, .int .i64 a.k] 54) = w1 at hR1 hB1
  have hs1 : w1.heap.size = w.heap.size + 1 := by rw [← hw1]; simp
  have hR2 := rb_new w1 #[.slice bo bn bc, .slice bco bm bd, .int .i64 b.k] 54
  have hB2 := bt2 hB1 (bal w1 (.cells #[.slice bo bn bc, .slice bco bm bd, .int .i64 b.k] 54))
  have hR12 := hR1.keep (bal w1 (.cells #[.slice bo bn bc, .slice bco bm bd, .int .i64 b.k] 54))
  generalize hw2 : w1.alloc (.cells #[.slice bo bn bc, .slice bco bm bd, .int .i64 b.k] 54) = w2 at hR2 hB2 hR12
  have hs2 : w2.heap.size = w.heap.size + 2 := by rw [← hw2]; simp [hs1]
  have hR3 := rb_new w2 zS 54
  have hB3 := bt2 hB2 (bal w2 (.cells zS 54))
  have hR13 := hR12.keep (bal w2 (.cells zS 54))
  have hR23 := hR2.keep (bal w2 (.cells zS 54))
  generalize hw3 : w2.alloc (.cells zS 54) = w3 at hR3 hB3 hR13 hR23
  have hs3 : w3.heap.size = w.heap.size + 3 := by rw [← hw3]; simp [hs2]
  rw [hs1] at hR23
  rw [hs2, show w.heap.size + 2 = w.heap.size + 1 + 1 from rfl] at hR3
  clear hR12 hR2 hB2 hB1 hR1
  have HW : Hid (((w.alloc (.cells #[.slice ao an ac, .slice aco am ad, .int .i64 a.k] 54)).alloc (.cells #[.slice bo bn bc, .slice bco bm bd, .int .i64 b.k] 54)).alloc (.cells zS 54) = w3) := by rw [hw1, hw2, hw3]; exact rfl
  clear hw1 hw2 hw3 hs1 hs2
  have gA' := mkHid gA.fit
  have gB' := mkHid gB.fit
  clear hop gA gB
  go_enter Tryz.func35, Tryz.ntmps35
  go_wp2_with (fail)
  have eW := HW.out
  unfold zS at eW
  rw [eW]
  clear eW HW
  have o0 := (txcell hR13 0 _ rfl).1
  have o2 := (txcell hR23 0 _ rfl).1
  have o3 := (txcell hR3 0 _ rfl)
  have o4 := (txcell hR3 1 _ rfl)
  have o5 := (txcell hR3 2 _ rfl)
  by_cases h0 : in64 (op a.k b.k) = true
  · rw [HOP.out.1, Oper.upon_enter]
    refine ((HOP.out.2 a.k b.k w3 hka hkb).1 h0).mono ?_
    rintro e w' ⟨rfl, rfl⟩
    go_wp2_with (fail)
    have hBc := bta hB3 (.cells #[.slice ao an ac, .slice bo bn bc] 26)
    have hC0 := rb_new w3 #[.slice ao an ac, .slice bo bn bc] 26
    have hd1 := hR13.keep (bal w3 (.cells #[.slice ao an ac, .slice bo bn bc] 26))
    have hd2 := hR23.keep (bal w3 (.cells #[.slice ao an ac, .slice bo bn bc] 26))
    have hd3 := hR3.keep (bal w3 (.cells #[.slice ao an ac, .slice bo bn bc] 26))
    have hsc : (w3.alloc (.cells #[.slice ao an ac, .slice bo bn bc] 26)).heap.size = w.heap.size + 4 := by simp [hs3]
    rw [hs3] at hC0
    clear hR13 hR23 hR3 hB3 o0 o2 o3 o4 o5 hs3
    generalize w3.alloc (.cells #[.slice ao an ac, .slice bo bn bc] 26) = wc at hBc hC0 hd1 hd2 hd3 hsc ⊢
    refine (concat_at (w.heap.size + 3) ao bo an ac bn bc a.ns b.ns wc (txcell hC0 0 _ rfl).1 (txcell hC0 1 _ rfl).1 ((hA.below hBc).1) ((hB.below hBc).1) (by omega)).mono ?_
    rintro e w4 ⟨v4, rfl, hO4, hB4⟩
    go_wp2_with (fail)
    refine (sort_own wc.heap.size (an + bn) _ (a.ns ++ b.ns) _ hO4 (by omega)).mono ?_
    rintro e w5 ⟨rfl, hO5, hg5⟩
    have hB5 := owns_below2 hB4 hO4 (Nat.le_refl _) hg5 hB4.size
    go_wp2_with (fail)
    refine (compact_own wc.heap.size (an + bn) _ (srt (a.ns ++ b.ns)) _ hO5 (by omega)).mono ?_
    rintro e w6 ⟨v6, rfl, hO6, hg6⟩
    have hB6 := owns_below2 hB5 hO5 (Nat.le_refl _) hg6 hB5.size
    clear hC0 hB4 hO4 hO5 hg5 hB5 hg6
    rw [srt_own_tog] at hO6
    replace hd1 := hd1.keep hB6
    replace hd2 := hd2.keep hB6
    replace hd3 := hd3.keep hB6
    have hB16 := bt2 hBc hB6
    have hs6 : w.heap.size + 4 ≤ w6.heap.size := by have := hB6.size; omega
    have hsc' : w.heap.size + 4 ≤ wc.heap.size := by omega
    clear hBc hB6 hsc
    have HG := mkHid (cmb_get op a b)
    have HCL : Hid ((cmb op a b).cs.length = (togL (a.ns ++ b.ns)).length) := by show _ = _; simp [cmb]
    have HNS : Hid ((cmb op a b).ns = togL (a.ns ++ b.ns)) := rfl
    have HLL : (togL (a.ns ++ b.ns)).length ≤ 1000 := by
      have := tog_length (a.ns ++ b.ns)
      rw [List.length_append, hA.1.eqlen, hB.1.eqlen] at this
      omega
    have HFI := mkHid (fits_iff (cmb op a b))
    have HKK : Hid ((cmb op a b).k = op a.k b.k) := rfl
    generalize hC : cmb op a b = C at HG HCL HNS HFI HKK
    generalize togL (a.ns ++ b.ns) = L at hO6 HG HCL HNS HLL
    obtain ⟨ro, cr, rfl, hR6⟩ := rds_of_owns hO6
    have HRB : Hid (∀ ad, ro = some ad → ad.block ≠ w.heap.size + 1 + 1) := fun ad e => by have := owns_ad hO6 ad e; omega
    have HNG : Hid (∀ ad, ro = some ad → ad.block ≠ w6.heap.size) := fun ad e => by have := owns_adlt hO6 ad e; omega
    have HNA : Hid (NewA w.heap.size ro) := fun ad e => by have := owns_ad hO6 ad e; omega
    have hcr := hR6.lecap
    have hcx := hR6.lemax
    clear hO6
    generalize hLn : L.length = n at *
    go_wp2_with (at_make; refine wpList_make_full _ rfl _ _ 27 rfl w6.heap.size 2 ii (.int .i64 0) 1 Tryz.underlying27 hi hi0 hi1 _ _ _ _ n rfl rfl rfl rfl (by rw [hi2]; omega) (by unfold maxLen; omega) (Nat.le_refl _) ?_; intro w7 hown7 hg7; rw [made_zeros] at hown7)
    have hB7 : Below w6.heap.size w6 w7 := (Below.refl _ _).grown hg7 (Nat.le_refl _) (fun k h => by cases h)
    go_loopw [41] (fun i wr => ∃ k : Nat, k ≤ n ∧ i = .int .i64 k ∧ wr.ownsRow w6.heap.size 2 1 (.slice (some ⟨w6.heap.size, 0, none⟩) n n) n (cellsZ (front C.cs (List.replicate n 0) k)) ∧ Below w6.heap.size w6 wr ∧ Hid (∀ j, j < k → in64 (C.cs.getD j 0) = true)) (fun i _ => n - (intOf i).toNat)
    case atStart => exact ⟨0, Nat.zero_le _, rfl, by rw [front_zero]; exact hown7, hB7, fun j hj => absurd hj (by omega)⟩
    case round =>
      clear hown7 hg7 hB7
      obtain ⟨k, hk, rfl, hO, hBr, hall⟩ := hrel
      replace hd1 := hd1.keep hBr
      replace hd2 := hd2.keep hBr
      replace hd3 := hd3.keep hBr
      have hB1r := bt2 hB16 hBr
      have hRr := hR6.below (Nat.le_refl _) hBr
      have hne : w.heap.size + 1 + 1 ≠ w6.heap.size := by omega
      by_cases hlt : k < n
      · obtain ⟨g, o, rfl, hc0⟩ := hRr.cell k hlt
        have hgk := HG.out k hlt
        have hca := cof_i64 (gA'.out) (L.getD k emp)
        have hcb := cof_i64 (gB'.out) (L.getD k emp)
        generalize L.getD k emp = x at hc0 hgk hca hcb
        generalize hxa : cof x a.ns a.cs = xa at hgk hca
        generalize hxb : cof x b.ns b.cs = xb at hgk hcb
        have CAx : Hid (∀ w', Below w.heap.size w w' → Calls Tryz.prog 65 #[sumV a ao aco an ac am ad, .string x] w' fun e w'' => e = .returned (.int .i64 xa) ∧ Below w'.heap.size w' w'') := fun w' hw => by rw [← hxa]; exact CA.out w' hw x
        have CBx : Hid (∀ w', Below w.heap.size w w' → Calls Tryz.prog 65 #[sumV b bo bco bn bc bm bd, .string x] w' fun e w'' => e = .returned (.int .i64 xb) ∧ Below w'.heap.size w' w'') := fun w' hw => by rw [← hxb]; exact CB.out w' hw x
        have HGK := mkHid hgk
        clear hgk hxa hxb
        have hdr : Below wr.heap.size wr wr.drew := (Below.refl _ _).drew
        have hB1d := bt2 hB1r hdr
        have hd1d := hd1.keep hdr
        have hd2d := hd2.keep hdr
        obtain ⟨a0, -⟩ := txcell hd1 0 _ rfl
        obtain ⟨a1, -⟩ := txcell hd1 1 _ rfl
        obtain ⟨a2, -⟩ := txcell hd1 2 _ rfl
        obtain ⟨b0, -⟩ := txcell hd2 0 _ rfl
        obtain ⟨b1, -⟩ := txcell hd2 1 _ rfl
        obtain ⟨b2, -⟩ := txcell hd2 2 _ rfl
        obtain ⟨zv, ev, HBY, hcase⟩ : ∃ zv ev : Int, Hid (∀ w', Calls Tryz.prog f #[.int .i64 xa, .int .i64 xb] w' fun e w'' => e = .returned (.tuple #[.int .i64 zv, .int .i64 ev]) ∧ w' = w'') ∧ Hid ((in64 (op xa xb) = true ∧ zv = op xa xb ∧ ev = 0) ∨ (in64 (op xa xb) = false ∧ ev = 10)) := by
          cases hz : in64 (op xa xb) with
          | true => exact ⟨_, _, fun w' => (HOP.out.2 xa xb w' hca hcb).1 hz, .inl ⟨rfl, rfl, rfl⟩⟩
          | false => exact ⟨_, _, fun w' => (HOP.out.2 xa xb w' hca hcb).2 hz, .inr ⟨rfl, rfl⟩⟩
        have HEN := mkHid HOP.out.1
        have hk1 : k < C.cs.length := by rw [HCL.out]; exact hlt
        have HST : Hid (∀ wz : World, wz.ownsRow w6.heap.size 2 1 (.slice (some ⟨w6.heap.size, 0, none⟩) n n) n (cellsZ (front C.cs (List.replicate n 0) k)) → (wz.setCell ⟨w6.heap.size, k, none⟩ (.int .i64 zv)).ownsRow w6.heap.size 2 1 (.slice (some ⟨w6.heap.size, 0, none⟩) n n) n (cellsZ ((front C.cs (List.replicate n 0) k).set k zv))) := fun wz h => by
          have := (h.stored k (.int .i64 zv)).1
          rw [cells_set] at this
          exact this
        have HBW : Hid (∀ wz : World, Below wr.heap.size wr wz → Below w6.heap.size w6 (wz.setCell ⟨w6.heap.size, k, none⟩ (.int .i64 zv))) := fun wz h => (bt2 hBr h).setCell (p := ⟨w6.heap.size, k, none⟩) (Nat.le_refl _) _
        have HD3 : Hid (∀ wz : World, Below wr.heap.size wr wz → Rb (wz.setCell ⟨w6.heap.size, k, none⟩ (.int .i64 zv)) (w.heap.size + 1 + 1) zS 54) := fun wz h => (hd3.keep h).other hne k _
        have HFS : Hid (in64 (op xa xb) = true → zv = op xa xb → (front C.cs (List.replicate n 0) k).set k zv = front C.cs (List.replicate n 0) (k + 1)) := fun h e => by
          rw [e, ← HGK.out]; exact front_set _ _ _ (by rw [HCL.out, List.length_replicate]) hk1
        have HALL : Hid (in64 (op xa xb) = true → ∀ j, j < k + 1 → in64 (C.cs.getD j 0) = true) := fun hz j hj => by
          rcases Nat.lt_or_ge j k with g | g
          · exact hall.out j g
          · rw [show j = k from by omega, HGK.out]; exact hz
        have HER : Hid (in64 (op xa xb) = false → mkS C = .er 91) := fun hz => mkS_no (fun h => by
          have := ((HFI.out).1 h).2 k hk1
          rw [HGK.out, hz] at this; cases this)
        clear CA CB HG hall HGK HFI HKK HNS hA hB HCL HOP
        go_wp2
        go_region_with (first
          | (have _t := ta; go_at_call_of 65 (Value.agg #[Value.slice bo bn bc, Value.slice bco bm bd, Value.int IntKind.i64 b.k]); refine (CBx.out _ (bt2 hB1d hBa)).mono ?_; rintro e wb ⟨rfl, hBb⟩; have hBz := bt2 hdr (bt2 hBa hBb); have hOz := owns_below hO hBz; have hoc := ownsZ_cell hOz k hlt; have hof := hOz.frozenAt k; have hO2 := HST.out _ hOz; have hB2 := HBW.out _ hBz; have hd3z := HD3.out _ hBz)
          | (have _t := tb; go_at_call_of 65 (Value.agg #[Value.slice ao an ac, Value.slice aco am ad, Value.int IntKind.i64 a.k]); refine (CAx.out _ (bt2 hB1d hBb')).mono ?_; rintro e wb ⟨rfl, hBb⟩; have hBz := bt2 hdr (bt2 hBb' hBb); have hOz := owns_below hO hBz; have hoc := ownsZ_cell hOz k hlt; have hof := hOz.frozenAt k; have hO2 := HST.out _ hOz; have hB2 := HBW.out _ hBz; have hd3z := HD3.out _ hBz)
          | (go_at_call_of 65 (Value.agg #[Value.slice ao an ac, Value.slice aco am ad, Value.int IntKind.i64 a.k]); refine (CAx.out _ hB1d).mono ?_; rintro e wa ⟨rfl, hBa⟩; obtain ⟨p0, -⟩ := txcell (hd2d.keep hBa) 0 _ rfl; obtain ⟨p1, -⟩ := txcell (hd2d.keep hBa) 1 _ rfl; obtain ⟨p2, -⟩ := txcell (hd2d.keep hBa) 2 _ rfl; have ta : Hid True := trivial)
          | (go_at_call_of 65 (Value.agg #[Value.slice bo bn bc, Value.slice bco bm bd, Value.int IntKind.i64 b.k]); refine (CBx.out _ hB1d).mono ?_; rintro e wa ⟨rfl, hBb'⟩; obtain ⟨p0, -⟩ := txcell (hd1d.keep hBb') 0 _ rfl; obtain ⟨p1, -⟩ := txcell (hd1d.keep hBb') 1 _ rfl; obtain ⟨p2, -⟩ := txcell (hd1d.keep hBb') 2 _ rfl; have tb : Hid True := trivial)
          | (rw [HEN.out, Oper.upon_enter]; refine (HBY.out _).mono ?_; rintro e w8 ⟨rfl, rfl⟩))
        all_goals
          rcases hcase.out with ⟨hz, rfl, rfl⟩ | ⟨hz, rfl⟩
          · have hO3 := HFS.out hz rfl
            rw [hO3] at hO2
            have HALL2 := mkHid (HALL.out hz)
            clear hcase HBY HST HBW HD3 HFS HALL HER HEN
            go_wp2
            go_roundw
            case rel =>
              exact ⟨k + 1, by omega, by go_num, hO2, hB2, HALL2⟩
            case measure => simp [intOf]; omega
          · have HE := mkHid (HER.out hz)
            have hR9 := rb_three hd3z rfl (.slice none 0 0) (.slice none 0 0) (.int .i64 0)
            have hB9 := bel_st3 (B := w.heap.size + 1 + 1) (bt2 hB16 hB2) (by omega) (.slice none 0 0) (.slice none 0 0) (.int .i64 0)
            obtain ⟨r0, s0⟩ := txcell hd3z 0 _ rfl
            obtain ⟨r1, s1⟩ := txcell hd3z 1 _ rfl
            obtain ⟨r2, s2⟩ := txcell hd3z 2 _ rfl
            clear hcase HBY HST HBW HD3 HFS HALL HER HEN
            go_wp2
            obtain ⟨k0, -⟩ := txcell hR9 0 _ rfl
            obtain ⟨k1, -⟩ := txcell hR9 1 _ rfl
            obtain ⟨k2, -⟩ := txcell hR9 2 _ rfl
            exact bodyPost_ret (v := .tuple #[.agg zS, .int .i64 91]) (by simp [results, Tryz.results35, go_sem, k0, k1, k2]) rfl ⟨_, rfl, by rw [hC, HE.out]; rfl, hB9⟩
      · obtain rfl : k = n := by omega
        have HE : Hid (mkS C = .ok C) := mkS_yes (HFI.out.2 ⟨by rw [HKK.out]; exact h0, fun j hj => hall.out j (by rw [HCL.out] at hj; exact hj)⟩)
        rw [front_all _ _ k HCL.out (by rw [List.length_replicate])] at hO
        have hR9 := rb_three hd3 rfl (.slice ro k cr) (.slice (some ⟨w6.heap.size, 0, none⟩) k k) (.int .i64 (op a.k b.k))
        have hB9 := bel_st3 (B := w.heap.size + 1 + 1) hB1r (by omega) (.slice ro k cr) (.slice (some ⟨w6.heap.size, 0, none⟩) k k) (.int .i64 (op a.k b.k))
        obtain ⟨r0, s0⟩ := txcell hd3 0 _ rfl
        obtain ⟨r1, s1⟩ := txcell hd3 1 _ rfl
        obtain ⟨r2, s2⟩ := txcell hd3 2 _ rfl
        clear CA CB HG hall HFI hA hB
        go_wp2
        obtain ⟨k0, -⟩ := txcell hR9 0 _ rfl
        obtain ⟨k1, -⟩ := txcell hR9 1 _ rfl
        obtain ⟨k2, -⟩ := txcell hR9 2 _ rfl
        refine bodyPost_ret (v := .tuple #[.agg #[.slice ro k cr, .slice (some ⟨w6.heap.size, 0, none⟩) k k, .int .i64 (op a.k b.k)], .int .i64 0]) (by simp [results, Tryz.results35, go_sem, k0, k1, k2]) rfl ⟨_, rfl, ?_, hB9⟩
        rw [hC, HE.out]
        refine ⟨ro, k, cr, k, k, w6.heap.size, by rw [← HKK.out], ?_, ⟨HNA.out, HNG.out⟩, ?_⟩
        · rw [HNS.out]; exact rds_st3 hRr HRB.out _ _ _
        · exact owns_st3 (owns_mono hO (by omega)) (fun g e => by cases e; show w6.heap.size ≠ _; omega) _ _ _
  · have h0' : in64 (op a.k b.k) = false := by simpa using h0
    rw [HOP.out.1, Oper.upon_enter]
    refine ((HOP.out.2 a.k b.k w3 hka hkb).2 h0').mono ?_
    rintro e w' ⟨rfl, rfl⟩
    have HF : Hid (mkS (cmb op a b) = .er 91) := mkS_no (fun h => h0 ((fits_iff _).1 h).1)
    have hR4 := rb_three hR3 rfl (.slice none 0 0) (.slice none 0 0) (.int .i64 0)
    have hB4 := bel_st3 (B := w.heap.size + 1 + 1) hB3 (by omega) (.slice none 0 0) (.slice none 0 0) (.int .i64 0)
    clear h0 h0'
    go_wp2_with (fail)
    obtain ⟨k0, -⟩ := txcell hR4 0 _ rfl
    obtain ⟨k1, -⟩ := txcell hR4 1 _ rfl
    obtain ⟨k2, -⟩ := txcell hR4 2 _ rfl
    exact bodyPost_ret (v := .tuple #[.agg zS, .int .i64 91]) (by simp [results, Tryz.results35, go_sem, k0, k1, k2]) rfl ⟨_, rfl, by rw [HF.out]; rfl, hB4⟩
end Go.Proofs.YtiapkblebbcfbaaGreat.Gl
