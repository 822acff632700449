/- The writer's atom and connected. -/
import Derived.Test.YtncgmnijgdfenaaGreatDoorShL
namespace Go.Proofs.YtncgmnijgdfenaaGreatDoor.Gl
open Go Go.RowKit
set_option linter.unusedVariables false
set_option linter.unusedSimpArgs false

/-- a formula's cells at a place -/
structure At5 (W : World) (g o : Nat) (c0 c1 c2 c3 c4 : Value) : Prop where
  lt : g < W.heap.size
  k0 : W.cell? ⟨g, o, none⟩ = some c0
  k1 : W.cell? ⟨g, o + 1, none⟩ = some c1
  k2 : W.cell? ⟨g, o + 2, none⟩ = some c2
  k3 : W.cell? ⟨g, o + 3, none⟩ = some c3
  k4 : W.cell? ⟨g, o + 4, none⟩ = some c4
theorem At5.to {W w : World} {g o : Nat} {c0 c1 c2 c3 c4 : Value} (h : At5 W g o c0 c1 c2 c3 c4) (hb : Below W.heap.size W w) : w.cell? ⟨g, o, none⟩ = some c0 ∧ w.cell? ⟨g, o + 1, none⟩ = some c1 ∧ w.cell? ⟨g, o + 2, none⟩ = some c2 ∧ w.cell? ⟨g, o + 3, none⟩ = some c3 ∧ w.cell? ⟨g, o + 4, none⟩ = some c4 :=
  ⟨(hb.cell (p := ⟨g, o, none⟩) h.lt).trans h.k0, (hb.cell (p := ⟨g, o + 1, none⟩) h.lt).trans h.k1, (hb.cell (p := ⟨g, o + 2, none⟩) h.lt).trans h.k2, (hb.cell (p := ⟨g, o + 3, none⟩) h.lt).trans h.k3, (hb.cell (p := ⟨g, o + 4, none⟩) h.lt).trans h.k4⟩
theorem rdfl_one {W : World} {t : Fm} {l : List Fm} {ao : Option Addr} (h : RdFL W (t :: l) ao 0) : ∃ g o c0 c1 c2 c3 c4, ao = some ⟨g, o, none⟩ ∧ At5 W g o c0 c1 c2 c3 c4 ∧ RdF W t c0 c1 c2 c3 c4 := by
  rw [RdFL] at h
  obtain ⟨⟨g, o, c0, c1, c2, c3, c4, e, hg, k0, k1, k2, k3, k4, hr⟩, _⟩ := h
  exact ⟨g, o, c0, c1, c2, c3, c4, e, ⟨hg, by simpa using k0, by simpa using k1, by simpa using k2, by simpa using k3, by simpa using k4⟩, hr⟩
theorem rdfl_two {W : World} {t u : Fm} {l : List Fm} {ao : Option Addr} (h : RdFL W (t :: u :: l) ao 0) : ∃ g o c0 c1 c2 c3 c4 d0 d1 d2 d3 d4, ao = some ⟨g, o, none⟩ ∧ (At5 W g o c0 c1 c2 c3 c4 ∧ RdF W t c0 c1 c2 c3 c4) ∧ At5 W g (o + 5) d0 d1 d2 d3 d4 ∧ RdF W u d0 d1 d2 d3 d4 := by
  rw [RdFL, RdFL] at h
  obtain ⟨⟨g, o, c0, c1, c2, c3, c4, e, hg, k0, k1, k2, k3, k4, hr⟩, ⟨g', o', d0, d1, d2, d3, d4, e', hg', j0, j1, j2, j3, j4, hr'⟩, _⟩ := h
  rw [e] at e'
  cases e'
  exact ⟨g, o, c0, c1, c2, c3, c4, d0, d1, d2, d3, d4, e, ⟨⟨hg, by simpa using k0, by simpa using k1, by simpa using k2, by simpa using k3, by simpa using k4⟩, hr⟩, ⟨hg, by simpa using j0, by simpa using j1, by simpa using j2, by simpa using j3, by simpa using j4⟩, hr'⟩
abbrev FC (W : World) (b : Nat) (bs : List UInt8) (c0 c1 c2 c3 c4 : Value) : Prop :=
  ∀ w l, Below W.heap.size W w → Bw w b l → l.length + bs.length ≤ 140737488355328 → Calls Tryz.prog 16 #[.pointer (some ⟨b, 0, none⟩), .agg #[c0, c1, c2, c3, c4]] w (WrA b l bs w)
set_option maxRecDepth 100000 in
set_option maxHeartbeats 1000000 in
theorem connected_at {W : World} {b : Nat} (hb : W.heap.size ≤ b) (g o cap : Nat) (c0 c1 c2 c3 c4 d0 d1 d2 d3 d4 : Value) (bs cs : List UInt8) (hc : At5 W g o c0 c1 c2 c3 c4) (hd : At5 W g (o + 5) d0 d1 d2 d3 d4) (HT : FC W b bs c0 c1 c2 c3 c4) (HU : FC W b cs d0 d1 d2 d3 d4)
    (x : ByteArray) (w : World) (l : List UInt8) (hW : Below W.heap.size W w) (h : Bw w b l) (hlen : l.length + (bs.length + cs.length + x.size + 4) ≤ 140737488355328) (hcap : 2 ≤ cap) (hcz : cap ≤ 9223372036854775807) :
    Calls Tryz.prog 31 #[.pointer (some ⟨b, 0, none⟩), .slice (some ⟨g, o, none⟩) 2 cap, .string x] w (WrA b l (40 :: (bs ++ (32 :: (tbs x ++ (32 :: (cs ++ [41])))))) w) := by
  have hbw := h.lt
  have P1 := mkHid (put1 h kOpen (by show l.length + 1 ≤ 140737488355328; omega) rfl)
  have HW := mkHid hW
  have HC := mkHid hc
  have HD := mkHid hd
  have HF := mkHid HT
  have HG := mkHid HU
  clear HT HU hc hd h hW
  go_enter Tryz.func31, Tryz.ntmps31
  go_wp2_with (fail)
  refine P1.out.mono ?_
  rintro e w3 ⟨rfl, hb3, hk3⟩
  have hW3 := mkHid (HW.out.trans (hk3.low hb))
  obtain ⟨x0, x1, x2, x3, x4⟩ := HC.out.to hW3.out
  have C1 := mkHid (HF.out w3 _ hW3.out hb3 (by rw [List.length_append]; show l.length + 1 + _ ≤ 140737488355328; omega))
  have hk3' := mkHid hk3
  clear hb3 hk3
  go_wp2_with (fail)
  refine C1.out.mono ?_
  rintro e w4 ⟨rfl, hb4, hk4⟩
  have P2 := mkHid (put3 hb4 blk x blk (by rw [List.length_append, List.length_append]; show l.length + 1 + _ + (1 + (_ + 1)) ≤ 140737488355328; omega) rfl)
  have hk4' := mkHid hk4
  clear hb4 hk4 x0 x1 x2 x3 x4
  go_wp2_with (fail)
  refine P2.out.mono ?_
  rintro e w5 ⟨rfl, hb5, hk5⟩
  have hW5 := mkHid ((hW3.out.trans (hk4'.out.low hb)).trans (hk5.low hb))
  obtain ⟨x0, x1, x2, x3, x4⟩ := HD.out.to hW5.out
  have C2 := mkHid (HG.out w5 _ hW5.out hb5 (by simp only [List.length_append, tb_len, blk_size]; show l.length + 1 + _ + (1 + (_ + 1)) + _ ≤ 140737488355328; omega))
  have hk5' := mkHid hk5
  clear hb5 hk5
  go_wp2_with (fail)
  refine C2.out.mono ?_
  rintro e w6 ⟨rfl, hb6, hk6⟩
  have P3 := mkHid (put1 hb6 kShut (by simp only [List.length_append, tb_len, blk_size]; show l.length + 1 + _ + (1 + (_ + 1)) + _ + 1 ≤ 140737488355328; omega) rfl)
  have hk6' := mkHid hk6
  clear hb6 hk6 x0 x1 x2 x3 x4
  go_wp2_with (fail)
  refine P3.out.mono ?_
  rintro e w7 ⟨rfl, hb7, hk7⟩
  have hbz := mkHid hb7
  have hkz := mkHid ((((hk3'.out.trans hk4'.out).trans hk5'.out).trans hk6'.out).trans hk7)
  clear hb7 hk7
  go_wp2
  go_end0
  refine ⟨rfl, ?_, hkz.out⟩
  have := hbz.out
  rw [tb_blk] at this
  have e1 : tbs kOpen = [40] := rfl
  have e2 : tbs kShut = [41] := rfl
  rw [e1, e2] at this
  simpa [List.append_assoc] using this
set_option maxRecDepth 100000 in
set_option maxHeartbeats 1000000 in
theorem atom_show {W : World} {b : Nat} (hb : W.heap.size ≤ b) (hP : Pw W) (o m : Int) (x : ByteArray) (g of cap : Nat) (c4 : Value) (c0 c1 c2 c3 d0 d1 d2 d3 : Value) (bs cs : List UInt8) (hc : At4 W g of c0 c1 c2 c3) (hd : At4 W g (of + 4) d0 d1 d2 d3) (HT : TC W b bs c0 c1 c2 c3) (HU : TC W b cs d0 d1 d2 d3)
    (w : World) (l : List UInt8) (hW : Below W.heap.size W w) (h : Bw w b l) (h9 : 9 ≤ o) (h15 : o ≤ 15) (hcap : 2 ≤ cap) (hcz : cap ≤ 9223372036854775807) (hm : o = 15 → 0 ≤ m ∧ m ≤ 9223372036854775807)
    (R : List UInt8) (hR : R = if o = 15 then (32 :: (tbs kMod ++ (32 :: tbs (dec m.toNat)))) else [])
    (hlen : l.length + (bs ++ (32 :: (tbs (rsg o) ++ (32 :: (cs ++ R))))).length ≤ 140737488355328) :
    Calls Tryz.prog 32 #[.pointer (some ⟨b, 0, none⟩), .agg #[.int .i64 o, .string x, .int .i64 m, .slice (some ⟨g, of, none⟩) 2 cap, c4]] w (WrA b l (bs ++ (32 :: (tbs (rsg o) ++ (32 :: (cs ++ R))))) w) := by
  have hbw := h.lt
  have HR := mkHid hR
  have hWs := hW.size
  simp only [List.length_append, List.length_cons, tb_len] at hlen
  have HL := mkHid hlen
  have hB1 := mkHid (h.alloc (.cells #[.int .i64 o, .string x, .int .i64 m, .slice (some ⟨g, of, none⟩) 2 cap, c4] 26))
  have hK1 := mkHid ((Kw.refl b w).alloc (by omega) (.cells #[.int .i64 o, .string x, .int .i64 m, .slice (some ⟨g, of, none⟩) 2 cap, c4] 26))
  have HW := mkHid (bel_alloc hW (by omega) (.cells #[.int .i64 o, .string x, .int .i64 m, .slice (some ⟨g, of, none⟩) 2 cap, c4] 26))
  obtain ⟨x0, x1, x2, x3⟩ := hc.to HW.out
  have HD := mkHid hd
  have C1 := mkHid (HT _ l HW.out hB1.out (by omega))
  have HG := mkHid HU
  have RL := mkHid (fun w => srel_at o w h9 h15)
  have hpw := mkHid hP
  have HM := mkHid hm
  have HO := mkHid h9
  clear HT HU hc hd h hW hlen hm hP h9 h15 hR
  go_enter Tryz.func32, Tryz.ntmps32
  go_wp2_with (fail)
  refine C1.out.mono ?_
  rintro e w3 ⟨rfl, hb3, hk3⟩
  have hbx := mkHid (wbox_keep hbw hk3 (by decide))
  have y0 := hbx.out 0
  have y3 := hbx.out 3
  have hblk := mkHid (hk3.blk (heap_alloc_new w _) (by omega) (by decide))
  have P1 := mkHid (put3 hb3 blk (rsg o) blk (by have := HL.out; rw [List.length_append]; show l.length + _ + (1 + (_ + 1)) ≤ 140737488355328; omega) rfl)
  have hk3' := mkHid hk3
  clear hb3 hk3 x0 x1 x2 x3
  go_wp2_with (go_at_call 52; refine (RL.out _).mono ?_; rintro e w9 ⟨rfl, rfl⟩)
  refine P1.out.mono ?_
  rintro e w4 ⟨rfl, hb4, hk4⟩
  have hblk4 := mkHid (wbox_keep2 hblk.out (by omega) hk4 (by decide))
  have z0 : w4.cell? ⟨w.heap.size, 0, none⟩ = some (.int .i64 o) := by rw [Lib.cell_of_heap hblk4.out]; rfl
  have z3 : w4.cell? ⟨w.heap.size, 3, none⟩ = some (.slice (some ⟨g, of, none⟩) 2 cap) := by rw [Lib.cell_of_heap hblk4.out]; rfl
  have hW4 := mkHid ((HW.out.trans (hk3'.out.low hb)).trans (hk4.low hb))
  obtain ⟨x0, x1, x2, x3⟩ := HD.out.to hW4.out
  have C2 := mkHid (HG.out w4 _ hW4.out hb4 (by have := HL.out; simp only [List.length_append, tb_len, blk_size]; omega))
  have hk4' := mkHid hk4
  clear hb4 hk4 y0 y3
  go_wp2_with (fail)
  refine C2.out.mono ?_
  rintro e w5 ⟨rfl, hb5, hk5⟩
  have hblk5 := mkHid (wbox_keep2 hblk4.out (by omega) hk5 (by decide))
  have y0 : w5.cell? ⟨w.heap.size, 0, none⟩ = some (.int .i64 o) := by rw [Lib.cell_of_heap hblk5.out]; rfl
  have y2 : w5.cell? ⟨w.heap.size, 2, none⟩ = some (.int .i64 m) := by rw [Lib.cell_of_heap hblk5.out]; rfl
  have hB5 := mkHid hb5
  have hk5' := mkHid hk5
  have hsz5 : w.heap.size + 1 ≤ w5.heap.size := by
    have := (Array.getElem?_eq_some_iff.1 hblk5.out).1
    omega
  clear hb5 hk5 x0 x1 x2 x3 z0 z3
  by_cases h15 : o = 15
  · subst h15
    obtain ⟨hm0, hm1⟩ := HM.out rfl
    have HR2 := mkHid (show R = 32 :: (tbs kMod ++ (32 :: tbs (dec m.toNat))) by rw [HR.out]; simp)
    clear HR
    have hW5 := mkHid (hW4.out.trans (hk5'.out.low hb))
    have DG := mkHid (digits_show m w5 hm0 hm1 (hpw.out.below hW5.out hpw.out.lt))
    clear HM hm0 hm1
    go_wp2_with (fail)
    refine DG.out.mono ?_
    rintro e w6 ⟨rfl, hB6⟩
    have P2 := mkHid (put2 (hB5.out.below hB6) ⟨#[32, 109, 111, 100, 32]⟩ (dec m.toNat) (by have := HL.out; rw [HR2.out] at this; simp only [List.length_append, List.length_cons, tb_len, blk_size] at this ⊢; have e5 : (⟨#[32, 109, 111, 100, 32]⟩ : ByteArray).size = 5 := rfl; have e3 : kMod.size = 3 := rfl; rw [e5]; rw [e3] at this; omega) rfl)
    have hk6 := mkHid (Kw.of hB6 (by omega : b ≤ w5.heap.size))
    clear hB6
    go_wp2_with (fail)
    refine P2.out.mono ?_
    rintro e w7 ⟨rfl, hb7, hk7⟩
    have hbz := mkHid hb7
    have hkz := mkHid (((((hK1.out.trans hk3'.out).trans hk4'.out).trans hk5'.out).trans hk6.out).trans hk7)
    clear hb7 hk7
    go_wp2
    go_end0
    refine ⟨rfl, ?_, hkz.out⟩
    have := hbz.out
    rw [tb_blk] at this
    have e1 : tbs ⟨#[32, 109, 111, 100, 32]⟩ = 32 :: (tbs kMod ++ [32]) := rfl
    rw [e1] at this
    rw [HR2.out]
    simpa [List.append_assoc] using this
  · have h15' : (o == 15) = false := by rw [beq_eq_false_iff_ne]; exact h15
    have HR2 := mkHid (show R = [] by rw [HR.out]; simp [h15])
    clear HR
    clear h15
    go_wp2
    go_end0
    refine ⟨rfl, ?_, ((hK1.out.trans hk3'.out).trans hk4'.out).trans hk5'.out⟩
    have := hB5.out
    rw [tb_blk] at this
    rw [HR2.out]
    simpa [List.append_assoc] using this
end Go.Proofs.YtncgmnijgdfenaaGreatDoor.Gl
/- The writer's formula. -/
namespace Go.Proofs.YtncgmnijgdfenaaGreatDoor.Gl
open Go Go.RowKit
set_option linter.unusedVariables false
set_option linter.unusedSimpArgs false

set_option maxRecDepth 100000 in
set_option maxHeartbeats 4000000 in
theorem formula_show {W : World} {b : Nat} (hb : W.heap.size ≤ b) (hP : Pw W) : ∀ f : Fm, f.all (wellT nmB) (wellF nmB) = true → f.all nT nF = true → ∀ c0 c1 c2 c3 c4, RdF W f c0 c1 c2 c3 c4 → FC W b (tbs (shF f)) c0 c1 c2 c3 c4 := by
  refine Fm.ind (fun o x m t a ih hw hn c0 c1 c2 c3 c4 hr w l hW h hlen => ?_)
  have hbw := h.lt
  have hWs := hW.size
  obtain ⟨hnx, hnt, hna⟩ := fll_own hn
  obtain ⟨hwx, hwt, hwa⟩ := fll_own hw
  rw [RdF] at hr
  obtain ⟨rfl, rfl, rfl, hz, ⟨bo, bcap, rfl, hblc, hbcz, hT⟩, ao, cap, rfl, hlc, hcz, hA⟩ := hr
  have hshp := well_fm hwx
  clear hwx hz
  cases hshp with
  | leaf ho =>
    rcases ho with rfl | rfl
    · rw [tf_tru] at hlen ⊢
      have hB1 := mkHid (h.alloc (.cells #[.int .i64 0, .string emp, .int .i64 0, .slice bo 0 bcap, .slice ao 0 cap] 26))
      have hK1 := mkHid ((Kw.refl b w).alloc (by omega) (.cells #[.int .i64 0, .string emp, .int .i64 0, .slice bo 0 bcap, .slice ao 0 cap] 26))
      have HW := mkHid (bel_alloc hW (by omega) (.cells #[.int .i64 0, .string emp, .int .i64 0, .slice bo 0 bcap, .slice ao 0 cap] 26))
      have HL := mkHid hlen
      have P1 := mkHid (put1 hB1.out kTrue (by have := HL.out; rw [tb_len] at this; exact this) (g := w.heap.size + 1) (by simp))
      clear h hW hlen hw hn ih hT hA
      go_enter Tryz.func16, Tryz.ntmps16
      go_wp2_with (fail)
      refine P1.out.mono ?_
      rintro e w4 ⟨rfl, hb4, hk4⟩
      have hbz := mkHid hb4
      have hkz := mkHid (hK1.out.trans hk4)
      clear hb4 hk4
      go_wp2
      go_end0
      exact ⟨rfl, hbz.out, hkz.out⟩
    · rw [tf_fls] at hlen ⊢
      have hB1 := mkHid (h.alloc (.cells #[.int .i64 1, .string emp, .int .i64 0, .slice bo 0 bcap, .slice ao 0 cap] 26))
      have hK1 := mkHid ((Kw.refl b w).alloc (by omega) (.cells #[.int .i64 1, .string emp, .int .i64 0, .slice bo 0 bcap, .slice ao 0 cap] 26))
      have HW := mkHid (bel_alloc hW (by omega) (.cells #[.int .i64 1, .string emp, .int .i64 0, .slice bo 0 bcap, .slice ao 0 cap] 26))
      have HL := mkHid hlen
      have P1 := mkHid (put1 hB1.out kFalse (by have := HL.out; rw [tb_len] at this; exact this) (g := w.heap.size + 1) (by simp))
      clear h hW hlen hw hn ih hT hA
      go_enter Tryz.func16, Tryz.ntmps16
      go_wp2_with (fail)
      refine P1.out.mono ?_
      rintro e w4 ⟨rfl, hb4, hk4⟩
      have hbz := mkHid hb4
      have hkz := mkHid (hK1.out.trans hk4)
      clear hb4 hk4
      go_wp2
      go_end0
      exact ⟨rfl, hbz.out, hkz.out⟩
  | @not f =>
    obtain ⟨g, of, d0, d1, d2, d3, d4, rfl, hd, hrt⟩ := rdfl_one hA
    rw [tf_not] at hlen ⊢
    have HT := mkHid (ih f (by simp) (fl_one hwa) (fl_one hna) _ _ _ _ _ hrt)
    have hB1 := mkHid (h.alloc (.cells #[.int .i64 2, .string emp, .int .i64 0, .slice bo 0 bcap, .slice (some ⟨g, of, none⟩) 1 cap] 26))
    have hK1 := mkHid ((Kw.refl b w).alloc (by omega) (.cells #[.int .i64 2, .string emp, .int .i64 0, .slice bo 0 bcap, .slice (some ⟨g, of, none⟩) 1 cap] 26))
    have HW := mkHid (bel_alloc hW (by omega) (.cells #[.int .i64 2, .string emp, .int .i64 0, .slice bo 0 bcap, .slice (some ⟨g, of, none⟩) 1 cap] 26))
    have HL := mkHid hlen
    have hl2 : l.length + (4 + (tbs (shF f)).length) ≤ 140737488355328 := by
      have := HL.out
      have e1 : (tbs kNot).length = 3 := rfl
      simp only [List.length_append, List.length_cons] at this
      rw [e1] at this
      omega
    have P1 := mkHid (put1 hB1.out ⟨#[110, 111, 116, 32]⟩ (by show l.length + 4 ≤ 140737488355328; omega) (g := w.heap.size + 1) (by simp))
    have HD := mkHid hd
    have HL2 := mkHid hl2
    clear h hW hlen hw hn ih hT hA hd hrt hl2 hnx
    go_enter Tryz.func16, Tryz.ntmps16
    go_wp2_with (fail)
    refine P1.out.mono ?_
    rintro e w4 ⟨rfl, hb4, hk4⟩
    have x4 := wbox_keep hbw hk4 (by decide) 4
    have hW4 := mkHid (HW.out.trans (hk4.low hb))
    obtain ⟨y0, y1, y2, y3, y4⟩ := HD.out.to hW4.out
    have HT' := mkHid (HT.out w4 _ hW4.out hb4 (by have := HL2.out; simp only [List.length_append]; show l.length + 4 + _ ≤ 140737488355328; omega))
    have hk4' := mkHid hk4
    clear hb4 hk4
    go_wp2_with (fail)
    refine HT'.out.mono ?_
    rintro e w5 ⟨rfl, hb5, hk5⟩
    have hbz := mkHid hb5
    have hkz := mkHid ((hK1.out.trans hk4'.out).trans hk5)
    clear hb5 hk5
    go_wp2
    go_end0
    refine ⟨rfl, ?_, hkz.out⟩
    have := hbz.out
    have e1 : tbs ⟨#[110, 111, 116, 32]⟩ = tbs kNot ++ [32] := rfl
    rw [e1] at this
    simpa [List.append_assoc] using this
  | @pair o f f' ho1 ho2 =>
    obtain ⟨g, of, d0, d1, d2, d3, d4, e0, e1, e2, e3, e4, rfl, ⟨hd, hrt⟩, hd', hru⟩ := rdfl_two hA
    rw [tf_pair ho1 ho2] at hlen ⊢
    have CB := mkHid (fun k w l hW h hl => connected_at (b := b) hb g of cap d0 d1 d2 d3 d4 e0 e1 e2 e3 e4 (tbs (shF f)) (tbs (shF f')) hd hd' (ih f (by simp) (fl_two hwa).1 (fl_two hna).1 _ _ _ _ _ hrt) (ih f' (by simp) (fl_two hwa).2 (fl_two hna).2 _ _ _ _ _ hru) k w l hW h hl hlc hcz)
    have ho : o = 3 ∨ o = 4 ∨ o = 5 ∨ o = 6 := by omega
    clear ho1 ho2 hnx
    rcases ho with rfl | rfl | rfl | rfl
    · have hB1 := mkHid (h.alloc (.cells #[.int .i64 3, .string emp, .int .i64 0, .slice bo 0 bcap, .slice (some ⟨g, of, none⟩) 2 cap] 26))
      have hK1 := mkHid ((Kw.refl b w).alloc (by omega) (.cells #[.int .i64 3, .string emp, .int .i64 0, .slice bo 0 bcap, .slice (some ⟨g, of, none⟩) 2 cap] 26))
      have HW := mkHid (bel_alloc hW (by omega) (.cells #[.int .i64 3, .string emp, .int .i64 0, .slice bo 0 bcap, .slice (some ⟨g, of, none⟩) 2 cap] 26))
      have HL := mkHid hlen
      have C1 := mkHid (CB.out kAnd _ l HW.out hB1.out (by have := HL.out; simp only [List.length_append, List.length_cons, tb_len] at this ⊢; have e1 : (jsg 3).size = kAnd.size := rfl; rw [e1] at this; simp only [List.length_nil] at this; omega))
      clear CB h hW hlen hw hn ih hT hA hd hrt hd' hru
      go_enter Tryz.func16, Tryz.ntmps16
      go_wp2_with (fail)
      refine C1.out.mono ?_
      rintro e w5 ⟨rfl, hb5, hk5⟩
      have hbz := mkHid hb5
      have hkz := mkHid (hK1.out.trans hk5)
      clear hb5 hk5
      go_wp2
      go_end0
      exact ⟨rfl, hbz.out, hkz.out⟩
    · have hB1 := mkHid (h.alloc (.cells #[.int .i64 4, .string emp, .int .i64 0, .slice bo 0 bcap, .slice (some ⟨g, of, none⟩) 2 cap] 26))
      have hK1 := mkHid ((Kw.refl b w).alloc (by omega) (.cells #[.int .i64 4, .string emp, .int .i64 0, .slice bo 0 bcap, .slice (some ⟨g, of, none⟩) 2 cap] 26))
      have HW := mkHid (bel_alloc hW (by omega) (.cells #[.int .i64 4, .string emp, .int .i64 0, .slice bo 0 bcap, .slice (some ⟨g, of, none⟩) 2 cap] 26))
      have HL := mkHid hlen
      have C1 := mkHid (CB.out kOr _ l HW.out hB1.out (by have := HL.out; simp only [List.length_append, List.length_cons, tb_len] at this ⊢; have e1 : (jsg 4).size = kOr.size := rfl; rw [e1] at this; simp only [List.length_nil] at this; omega))
      clear CB h hW hlen hw hn ih hT hA hd hrt hd' hru
      go_enter Tryz.func16, Tryz.ntmps16
      go_wp2_with (fail)
      refine C1.out.mono ?_
      rintro e w5 ⟨rfl, hb5, hk5⟩
      have hbz := mkHid hb5
      have hkz := mkHid (hK1.out.trans hk5)
      clear hb5 hk5
      go_wp2
      go_end0
      exact ⟨rfl, hbz.out, hkz.out⟩
    · have hB1 := mkHid (h.alloc (.cells #[.int .i64 5, .string emp, .int .i64 0, .slice bo 0 bcap, .slice (some ⟨g, of, none⟩) 2 cap] 26))
      have hK1 := mkHid ((Kw.refl b w).alloc (by omega) (.cells #[.int .i64 5, .string emp, .int .i64 0, .slice bo 0 bcap, .slice (some ⟨g, of, none⟩) 2 cap] 26))
      have HW := mkHid (bel_alloc hW (by omega) (.cells #[.int .i64 5, .string emp, .int .i64 0, .slice bo 0 bcap, .slice (some ⟨g, of, none⟩) 2 cap] 26))
      have HL := mkHid hlen
      have C1 := mkHid (CB.out kTo _ l HW.out hB1.out (by have := HL.out; simp only [List.length_append, List.length_cons, tb_len] at this ⊢; have e1 : (jsg 5).size = kTo.size := rfl; rw [e1] at this; simp only [List.length_nil] at this; omega))
      clear CB h hW hlen hw hn ih hT hA hd hrt hd' hru
      go_enter Tryz.func16, Tryz.ntmps16
      go_wp2_with (fail)
      refine C1.out.mono ?_
      rintro e w5 ⟨rfl, hb5, hk5⟩
      have hbz := mkHid hb5
      have hkz := mkHid (hK1.out.trans hk5)
      clear hb5 hk5
      go_wp2
      go_end0
      exact ⟨rfl, hbz.out, hkz.out⟩
    · have hB1 := mkHid (h.alloc (.cells #[.int .i64 6, .string emp, .int .i64 0, .slice bo 0 bcap, .slice (some ⟨g, of, none⟩) 2 cap] 26))
      have hK1 := mkHid ((Kw.refl b w).alloc (by omega) (.cells #[.int .i64 6, .string emp, .int .i64 0, .slice bo 0 bcap, .slice (some ⟨g, of, none⟩) 2 cap] 26))
      have HW := mkHid (bel_alloc hW (by omega) (.cells #[.int .i64 6, .string emp, .int .i64 0, .slice bo 0 bcap, .slice (some ⟨g, of, none⟩) 2 cap] 26))
      have HL := mkHid hlen
      have C1 := mkHid (CB.out kIff _ l HW.out hB1.out (by have := HL.out; simp only [List.length_append, List.length_cons, tb_len] at this ⊢; have e1 : (jsg 6).size = kIff.size := rfl; rw [e1] at this; simp only [List.length_nil] at this; omega))
      clear CB h hW hlen hw hn ih hT hA hd hrt hd' hru
      go_enter Tryz.func16, Tryz.ntmps16
      go_wp2_with (fail)
      refine C1.out.mono ?_
      rintro e w5 ⟨rfl, hb5, hk5⟩
      have hbz := mkHid hb5
      have hkz := mkHid (hK1.out.trans hk5)
      clear hb5 hk5
      go_wp2
      go_end0
      exact ⟨rfl, hbz.out, hkz.out⟩
  | @qu o x f ho hx =>
    obtain ⟨g, of, d0, d1, d2, d3, d4, rfl, hd, hrt⟩ := rdfl_one hA
    rw [tf_qu ho] at hlen ⊢
    have HT := mkHid (ih f (by simp) (fl_one hwa) (fl_one hna) _ _ _ _ _ hrt)
    rcases ho with rfl | rfl
    · have hB1 := mkHid (h.alloc (.cells #[.int .i64 7, .string x, .int .i64 0, .slice bo 0 bcap, .slice (some ⟨g, of, none⟩) 1 cap] 26))
      have hK1 := mkHid ((Kw.refl b w).alloc (by omega) (.cells #[.int .i64 7, .string x, .int .i64 0, .slice bo 0 bcap, .slice (some ⟨g, of, none⟩) 1 cap] 26))
      have HW := mkHid (bel_alloc hW (by omega) (.cells #[.int .i64 7, .string x, .int .i64 0, .slice bo 0 bcap, .slice (some ⟨g, of, none⟩) 1 cap] 26))
      have HL := mkHid hlen
      have hl2 : l.length + (3 + (x.size + 2) + (tbs (shF f)).length) ≤ 140737488355328 := by
        have := HL.out
        have e1 : (tbs (qsg 7)).length = 2 := rfl
        simp only [List.length_append, List.length_cons] at this
        rw [e1, tb_len x] at this
        omega
      have P1 := mkHid (put3 hB1.out ⟨#[101, 120, 32]⟩ x ⟨#[46, 32]⟩ (by show l.length + (3 + (x.size + 2)) ≤ 140737488355328; omega) (g := w.heap.size + 1) (by simp))
      have HD := mkHid hd
      have HL2 := mkHid hl2
      clear h hW hlen hw hn ih hT hA hd hrt hl2 hnx
      go_enter Tryz.func16, Tryz.ntmps16
      go_wp2_with (fail)
      refine P1.out.mono ?_
      rintro e w4 ⟨rfl, hb4, hk4⟩
      have x4 := wbox_keep hbw hk4 (by decide) 4
      have hW4 := mkHid (HW.out.trans (hk4.low hb))
      obtain ⟨y0, y1, y2, y3, y4⟩ := HD.out.to hW4.out
      have HT' := mkHid (HT.out w4 _ hW4.out hb4 (by have := HL2.out; simp only [List.length_append]; show l.length + (3 + (_ + 2)) + _ ≤ 140737488355328; rw [tb_len x]; omega))
      have hk4' := mkHid hk4
      clear hb4 hk4
      go_wp2_with (fail)
      refine HT'.out.mono ?_
      rintro e w5 ⟨rfl, hb5, hk5⟩
      have hbz := mkHid hb5
      have hkz := mkHid ((hK1.out.trans hk4'.out).trans hk5)
      clear hb5 hk5
      go_wp2
      go_end0
      refine ⟨rfl, ?_, hkz.out⟩
      have := hbz.out
      have e1 : tbs ⟨#[101, 120, 32]⟩ = tbs (qsg 7) ++ [32] := rfl
      have e2 : tbs ⟨#[46, 32]⟩ = [46, 32] := rfl
      rw [e1, e2] at this
      simpa [List.append_assoc] using this
    · have hB1 := mkHid (h.alloc (.cells #[.int .i64 8, .string x, .int .i64 0, .slice bo 0 bcap, .slice (some ⟨g, of, none⟩) 1 cap] 26))
      have hK1 := mkHid ((Kw.refl b w).alloc (by omega) (.cells #[.int .i64 8, .string x, .int .i64 0, .slice bo 0 bcap, .slice (some ⟨g, of, none⟩) 1 cap] 26))
      have HW := mkHid (bel_alloc hW (by omega) (.cells #[.int .i64 8, .string x, .int .i64 0, .slice bo 0 bcap, .slice (some ⟨g, of, none⟩) 1 cap] 26))
      have HL := mkHid hlen
      have hl2 : l.length + (4 + (x.size + 2) + (tbs (shF f)).length) ≤ 140737488355328 := by
        have := HL.out
        have e1 : (tbs (qsg 8)).length = 3 := rfl
        simp only [List.length_append, List.length_cons] at this
        rw [e1, tb_len x] at this
        omega
      have P1 := mkHid (put3 hB1.out ⟨#[97, 108, 108, 32]⟩ x ⟨#[46, 32]⟩ (by show l.length + (4 + (x.size + 2)) ≤ 140737488355328; omega) (g := w.heap.size + 1) (by simp))
      have HD := mkHid hd
      have HL2 := mkHid hl2
      clear h hW hlen hw hn ih hT hA hd hrt hl2 hnx
      go_enter Tryz.func16, Tryz.ntmps16
      go_wp2_with (fail)
      refine P1.out.mono ?_
      rintro e w4 ⟨rfl, hb4, hk4⟩
      have x4 := wbox_keep hbw hk4 (by decide) 4
      have hW4 := mkHid (HW.out.trans (hk4.low hb))
      obtain ⟨y0, y1, y2, y3, y4⟩ := HD.out.to hW4.out
      have HT' := mkHid (HT.out w4 _ hW4.out hb4 (by have := HL2.out; simp only [List.length_append]; show l.length + (4 + (_ + 2)) + _ ≤ 140737488355328; rw [tb_len x]; omega))
      have hk4' := mkHid hk4
      clear hb4 hk4
      go_wp2_with (fail)
      refine HT'.out.mono ?_
      rintro e w5 ⟨rfl, hb5, hk5⟩
      have hbz := mkHid hb5
      have hkz := mkHid ((hK1.out.trans hk4'.out).trans hk5)
      clear hb5 hk5
      go_wp2
      go_end0
      refine ⟨rfl, ?_, hkz.out⟩
      have := hbz.out
      have e1 : tbs ⟨#[97, 108, 108, 32]⟩ = tbs (qsg 8) ++ [32] := rfl
      have e2 : tbs ⟨#[46, 32]⟩ = [46, 32] := rfl
      rw [e1, e2] at this
      simpa [List.append_assoc] using this
  | @rel o t u ho1 ho2 =>
    obtain ⟨g, of, d0, d1, d2, d3, e0, e1, e2, e3, rfl, ⟨hd, hrt⟩, hd', hru⟩ := rdtl_two hT
    rw [tf_rel ho1 ho2] at hlen ⊢
    have hB1 := mkHid (h.alloc (.cells #[.int .i64 o, .string emp, .int .i64 0, .slice (some ⟨g, of, none⟩) 2 bcap, .slice ao 0 cap] 26))
    have hK1 := mkHid ((Kw.refl b w).alloc (by omega) (.cells #[.int .i64 o, .string emp, .int .i64 0, .slice (some ⟨g, of, none⟩) 2 bcap, .slice ao 0 cap] 26))
    have HW := mkHid (bel_alloc hW (by omega) (.cells #[.int .i64 o, .string emp, .int .i64 0, .slice (some ⟨g, of, none⟩) 2 bcap, .slice ao 0 cap] 26))
    have HL := mkHid hlen
    have C1 := mkHid (atom_show hb hP o 0 emp g of bcap (.slice ao 0 cap) d0 d1 d2 d3 e0 e1 e2 e3 (tbs (shT t)) (tbs (shT u)) hd hd' (term_at hb hP t (tl_two hwt).1 (tl_two hnt).1 _ _ _ _ hrt) (term_at hb hP u (tl_two hwt).2 (tl_two hnt).2 _ _ _ _ hru) _ l HW.out hB1.out (by omega) (by omega) hblc hbcz (fun e => by omega) [] (by rw [if_neg (by omega)]) (by have := HL.out; simpa using this))
    have q0 : (o == 0) = false := by rw [beq_eq_false_iff_ne]; omega
    have q1 : (o == 1) = false := by rw [beq_eq_false_iff_ne]; omega
    have q2 : (o == 2) = false := by rw [beq_eq_false_iff_ne]; omega
    have q3 : (o == 3) = false := by rw [beq_eq_false_iff_ne]; omega
    have q4 : (o == 4) = false := by rw [beq_eq_false_iff_ne]; omega
    have q5 : (o == 5) = false := by rw [beq_eq_false_iff_ne]; omega
    have q6 : (o == 6) = false := by rw [beq_eq_false_iff_ne]; omega
    have q7 : (o == 7) = false := by rw [beq_eq_false_iff_ne]; omega
    have q8 : (o == 8) = false := by rw [beq_eq_false_iff_ne]; omega
    clear h hW hlen hw hn ih hT hA hd hrt hd' hru hnx
    go_enter Tryz.func16, Tryz.ntmps16
    go_wp2_with (fail)
    refine C1.out.mono ?_
    rintro e w5 ⟨rfl, hb5, hk5⟩
    have hbz := mkHid hb5
    have hkz := mkHid (hK1.out.trans hk5)
    clear hb5 hk5
    go_wp2
    go_end0
    refine ⟨rfl, ?_, hkz.out⟩
    have := hbz.out
    simpa using this
  | @cong m t u hm =>
    obtain ⟨g, of, d0, d1, d2, d3, e0, e1, e2, e3, rfl, ⟨hd, hrt⟩, hd', hru⟩ := rdtl_two hT
    rw [tf_cong] at hlen ⊢
    have hB1 := mkHid (h.alloc (.cells #[.int .i64 15, .string emp, .int .i64 m, .slice (some ⟨g, of, none⟩) 2 bcap, .slice ao 0 cap] 26))
    have hK1 := mkHid ((Kw.refl b w).alloc (by omega) (.cells #[.int .i64 15, .string emp, .int .i64 m, .slice (some ⟨g, of, none⟩) 2 bcap, .slice ao 0 cap] 26))
    have HW := mkHid (bel_alloc hW (by omega) (.cells #[.int .i64 15, .string emp, .int .i64 m, .slice (some ⟨g, of, none⟩) 2 bcap, .slice ao 0 cap] 26))
    have HL := mkHid hlen
    have C1 := mkHid (atom_show hb hP 15 m emp g of bcap (.slice ao 0 cap) d0 d1 d2 d3 e0 e1 e2 e3 (tbs (shT t)) (tbs (shT u)) hd hd' (term_at hb hP t (tl_two hwt).1 (tl_two hnt).1 _ _ _ _ hrt) (term_at hb hP u (tl_two hwt).2 (tl_two hnt).2 _ _ _ _ hru) _ l HW.out hB1.out (by omega) (by omega) hblc hbcz (fun _ => ⟨by omega, of_decide_eq_true hnx⟩) _ (if_pos rfl).symm (by have := HL.out; simpa using this))
    clear h hW hlen hw hn ih hT hA hd hrt hd' hru hnx
    go_enter Tryz.func16, Tryz.ntmps16
    go_wp2_with (fail)
    refine C1.out.mono ?_
    rintro e w5 ⟨rfl, hb5, hk5⟩
    have hbz := mkHid hb5
    have hkz := mkHid (hK1.out.trans hk5)
    clear hb5 hk5
    go_wp2
    go_end0
    refine ⟨rfl, ?_, hkz.out⟩
    have := hbz.out
    simpa using this
end Go.Proofs.YtncgmnijgdfenaaGreatDoor.Gl
