/- The writer's atom and connected. -/
import Derived.Test.YtncgmnijgdfenaaDoorShL
namespace Go.Proofs.YtncgmnijgdfenaaDoor.Gl
open Go Go.RowKit
set_option linter.unusedVariables false
set_option linter.unusedSimpArgs false

/-- a formula's cells at a place -/
structure At5 (W : World) (g o : Nat) (c0 c1 c2 c3 c4 : Value) : Prop where
  lt : g < W.heap.size
  k0 : W.cell? ⟨g, o, none⟩ = some c0
  k1 : W.cell? ⟨g, o + 1, none⟩ = some c1
  k2 : W.cell? ⟨g, o + 2, none⟩ = some c2
  k3 : W.cell? ⟨g, o + 3, none⟩ = some c3
  k4 : W.cell? ⟨g, o + 4, none⟩ = some c4
theorem At5.to {W w : World} {g o : Nat} {c0 c1 c2 c3 c4 : Value} (h : At5 W g o c0 c1 c2 c3 c4) (hb : Below W.heap.size W w) : w.cell? ⟨g, o, none⟩ = some c0 ∧ w.cell? ⟨g, o + 1, none⟩ = some c1 ∧ w.cell? ⟨g, o + 2, none⟩ = some c2 ∧ w.cell? ⟨g, o + 3, none⟩ = some c3 ∧ w.cell? ⟨g, o + 4, none⟩ = some c4 :=
  ⟨(hb.cell (p := ⟨g, o, none⟩) h.lt).trans h.k0, (hb.cell (p := ⟨g, o + 1, none⟩) h.lt).trans h.k1, (hb.cell (p := ⟨g, o + 2, none⟩) h.lt).trans h.k2, (hb.cell (p := ⟨g, o + 3, none⟩) h.lt).trans h.k3, (hb.cell (p := ⟨g, o + 4, none⟩) h.lt).trans h.k4⟩
theorem rdfl_one {W : World} {t : Fm} {l : List Fm} {ao : Option Addr} (h : RdFL W (t :: l) ao 0) : ∃ g o c0 c1 c2 c3 c4, ao = some ⟨g, o, none⟩ ∧ At5 W g o c0 c1 c2 c3 c4 ∧ RdF W t c0 c1 c2 c3 c4 := by
  rw [RdFL] at h
  obtain ⟨⟨g, o, c0, c1, c2, c3, c4, e, hg, k0, k1, k2, k3, k4, hr⟩, _⟩ := h
  exact ⟨g, o, c0, c1, c2, c3, c4, e, ⟨hg, by simpa using k0, by simpa using k1, by simpa using k2, by simpa using k3, by simpa using k4⟩, hr⟩
theorem rdfl_two {W : World} {t u : Fm} {l : List Fm} {ao : Option Addr} (h : RdFL W (t :: u :: l) ao 0) : ∃ g o c0 c1 c2 c3 c4 d0 d1 d2 d3 d4, ao = some ⟨g, o, none⟩ ∧ (At5 W g o c0 c1 c2 c3 c4 ∧ RdF W t c0 c1 c2 c3 c4) ∧ At5 W g (o + 5) d0 d1 d2 d3 d4 ∧ RdF W u d0 d1 d2 d3 d4 := by
  rw [RdFL, RdFL] at h
  obtain ⟨⟨g, o, c0, c1, c2, c3, c4, e, hg, k0, k1, k2, k3, k4, hr⟩, ⟨g', o', d0, d1, d2, d3, d4, e', hg', j0, j1, j2, j3, j4, hr'⟩, _⟩ := h
  rw [e] at e'
  cases e'
  exact ⟨g, o, c0, c1, c2, c3, c4, d0, d1, d2, d3, d4, e, ⟨⟨hg, by simpa using k0, by simpa using k1, by simpa using k2, by simpa using k3, by simpa using k4⟩, hr⟩, ⟨hg, by simpa using j0, by simpa using j1, by simpa using j2, by simpa using j3, by simpa using j4⟩, hr'⟩
abbrev FC (W : World) (b : Nat) (bs : List UInt8) (c0 c1 c2 c3 c4 : Value) : Prop :=
  ∀ w l, Below W.heap.size W w → Bw w b l → l.length + bs.length ≤ 140737488355328 → Calls Tryd.prog 14 #[.pointer (some ⟨b, 0, none⟩), .agg #[c0, c1, c2, c3, c4]] w (WrA b l bs w)
set_option maxRecDepth 100000 in
set_option maxHeartbeats 1000000 in
theorem connected_at {W : World} {b : Nat} (hb : W.heap.size ≤ b) (g o cap : Nat) (c0 c1 c2 c3 c4 d0 d1 d2 d3 d4 : Value) (bs cs : List UInt8) (hc : At5 W g o c0 c1 c2 c3 c4) (hd : At5 W g (o + 5) d0 d1 d2 d3 d4) (HT : FC W b bs c0 c1 c2 c3 c4) (HU : FC W b cs d0 d1 d2 d3 d4)
    (x : ByteArray) (w : World) (l : List UInt8) (hW : Below W.heap.size W w) (h : Bw w b l) (hlen : l.length + (bs.length + cs.length + x.size + 4) ≤ 140737488355328) (hcap : 2 ≤ cap) (hcz : cap ≤ 9223372036854775807) :
    Calls Tryd.prog 26 #[.pointer (some ⟨b, 0, none⟩), .slice (some ⟨g, o, none⟩) 2 cap, .string x] w (WrA b l (40 :: (bs ++ (32 :: (tbs x ++ (32 :: (cs ++ [41])))))) w) := by
  have hbw := h.lt
  have P1 := mkHid (put1 h kOpen (by show l.length + 1 ≤ 140737488355328; omega) rfl)
  have HW := mkHid hW
  have HC := mkHid hc
  have HD := mkHid hd
  have HF := mkHid HT
  have HG := mkHid HU
  clear HT HU hc hd h hW
  go_enter Tryd.func26, Tryd.ntmps26
  go_wp2_with (fail)
  refine P1.out.mono ?_
  rintro e w3 ⟨rfl, hb3, hk3⟩
  have hW3 := mkHid (HW.out.trans (hk3.low hb))
  obtain ⟨x0, x1, x2, x3, x4⟩ := HC.out.to hW3.out
  have C1 := mkHid (HF.out w3 _ hW3.out hb3 (by rw [List.length_append]; show l.length + 1 + _ ≤ 140737488355328; omega))
  have hk3' := mkHid hk3
  clear hb3 hk3
  go_wp2_with (fail)
  refine C1.out.mono ?_
  rintro e w4 ⟨rfl, hb4, hk4⟩
  have P2 := mkHid (put3 hb4 blk x blk (by rw [List.length_append, List.length_append]; show l.length + 1 + _ + (1 + (_ + 1)) ≤ 140737488355328; omega) rfl)
  have hk4' := mkHid hk4
  clear hb4 hk4 x0 x1 x2 x3 x4
  go_wp2_with (fail)
  refine P2.out.mono ?_
  rintro e w5 ⟨rfl, hb5, hk5⟩
  have hW5 := mkHid ((hW3.out.trans (hk4'.out.low hb)).trans (hk5.low hb))
  obtain ⟨x0, x1, x2, x3, x4⟩ := HD.out.to hW5.out
  have C2 := mkHid (HG.out w5 _ hW5.out hb5 (by simp only [List.length_append, tb_len, blk_size]; show l.length + 1 + _ + (1 + (_ + 1)) + _ ≤ 140737488355328; omega))
  have hk5' := mkHid hk5
  clear hb5 hk5
  go_wp2_with (fail)
  refine C2.out.mono ?_
  rintro e w6 ⟨rfl, hb6, hk6⟩
  have P3 := mkHid (put1 hb6 kShut (by simp only [List.length_append, tb_len, blk_size]; show l.length + 1 + _ + (1 + (_ + 1)) + _ + 1 ≤ 140737488355328; omega) rfl)
  have hk6' := mkHid hk6
  clear hb6 hk6 x0 x1 x2 x3 x4
  go_wp2_with (fail)
  refine P3.out.mono ?_
  rintro e w7 ⟨rfl, hb7, hk7⟩
  have hbz := mkHid hb7
  have hkz := mkHid ((((hk3'.out.trans hk4'.out).trans hk5'.out).trans hk6'.out).trans hk7)
  clear hb7 hk7
  go_wp2
  go_end0
  refine ⟨rfl, ?_, hkz.out⟩
  have := hbz.out
  rw [tb_blk] at this
  have e1 : tbs kOpen = [40] := rfl
  have e2 : tbs kShut = [41] := rfl
  rw [e1, e2] at this
  simpa [List.append_assoc] using this
set_option maxRecDepth 100000 in
set_option maxHeartbeats 1000000 in
theorem atom_show {W : World} {b : Nat} (hb : W.heap.size ≤ b) (hP : Pw W) (o m : Int) (x : ByteArray) (g of cap : Nat) (c4 : Value) (c0 c1 c2 c3 d0 d1 d2 d3 : Value) (bs cs : List UInt8) (hc : At4 W g of c0 c1 c2 c3) (hd : At4 W g (of + 4) d0 d1 d2 d3) (HT : TC W b bs c0 c1 c2 c3) (HU : TC W b cs d0 d1 d2 d3)
    (w : World) (l : List UInt8) (hW : Below W.heap.size W w) (h : Bw w b l) (h9 : 9 ≤ o) (h15 : o ≤ 15) (hcap : 2 ≤ cap) (hcz : cap ≤ 9223372036854775807) (hm : o = 15 → 0 ≤ m ∧ m ≤ 9223372036854775807)
    (R : List UInt8) (hR : R = if o = 15 then (32 :: (tbs kMod ++ (32 :: tbs (dec m.toNat)))) else [])
    (hlen : l.length + (bs ++ (32 :: (tbs (rsg o) ++ (32 :: (cs ++ R))))).length ≤ 140737488355328) :
    Calls Tryd.prog 27 #[.pointer (some ⟨b, 0, none⟩), .agg #[.int .i64 o, .string x, .int .i64 m, .slice (some ⟨g, of, none⟩) 2 cap, c4]] w (WrA b l (bs ++ (32 :: (tbs (rsg o) ++ (32 :: (cs ++ R))))) w) := by
  have hbw := h.lt
  have HR := mkHid hR
  have hWs := hW.size
  simp only [List.length_append, List.length_cons, tb_len] at hlen
  have HL := mkHid hlen
  have hB1 := mkHid (h.alloc (.cells #[.int .i64 o, .string x, .int .i64 m, .slice (some ⟨g, of, none⟩) 2 cap, c4] 26))
  have hK1 := mkHid ((Kw.refl b w).alloc (by omega) (.cells #[.int .i64 o, .string x, .int .i64 m, .slice (some ⟨g, of, none⟩) 2 cap, c4] 26))
  have HW := mkHid (bel_alloc hW (by omega) (.cells #[.int .i64 o, .string x, .int .i64 m, .slice (some ⟨g, of, none⟩) 2 cap, c4] 26))
  obtain ⟨x0, x1, x2, x3⟩ := hc.to HW.out
  have HD := mkHid hd
  have C1 := mkHid (HT _ l HW.out hB1.out (by omega))
  have HG := mkHid HU
  have RL := mkHid (fun w => srel_at o w h9 h15)
  have hpw := mkHid hP
  have HM := mkHid hm
  have HO := mkHid h9
  clear HT HU hc hd h hW hlen hm hP h9 h15 hR
  go_enter Tryd.func27, Tryd.ntmps27
  go_wp2_with (fail)
  refine C1.out.mono ?_
  rintro e w3 ⟨rfl, hb3, hk3⟩
  have hbx := mkHid (wbox_keep hbw hk3 (by decide))
  have y0 := hbx.out 0
  have y3 := hbx.out 3
  have hblk := mkHid (hk3.blk (heap_alloc_new w _) (by omega) (by decide))
  have P1 := mkHid (put3 hb3 blk (rsg o) blk (by have := HL.out; rw [List.length_append]; show l.length + _ + (1 + (_ + 1)) ≤ 140737488355328; omega) rfl)
  have hk3' := mkHid hk3
  clear hb3 hk3 x0 x1 x2 x3
  go_wp2_with (go_at_call 39; refine (RL.out _).mono ?_; rintro e w9 ⟨rfl, rfl⟩)
  refine P1.out.mono ?_
  rintro e w4 ⟨rfl, hb4, hk4⟩
  have hblk4 := mkHid (wbox_keep2 hblk.out (by omega) hk4 (by decide))
  have z0 : w4.cell? ⟨w.heap.size, 0, none⟩ = some (.int .i64 o) := by rw [Lib.cell_of_heap hblk4.out]; rfl
  have z3 : w4.cell? ⟨w.heap.size, 3, none⟩ = some (.slice (some ⟨g, of, none⟩) 2 cap) := by rw [Lib.cell_of_heap hblk4.out]; rfl
  have hW4 := mkHid ((HW.out.trans (hk3'.out.low hb)).trans (hk4.low hb))
  obtain ⟨x0, x1, x2, x3⟩ := HD.out.to hW4.out
  have C2 := mkHid (HG.out w4 _ hW4.out hb4 (by have := HL.out; simp only [List.length_append, tb_len, blk_size]; omega))
  have hk4' := mkHid hk4
  clear hb4 hk4 y0 y3
  go_wp2_with (fail)
  refine C2.out.mono ?_
  rintro e w5 ⟨rfl, hb5, hk5⟩
  have hblk5 := mkHid (wbox_keep2 hblk4.out (by omega) hk5 (by decide))
  have y0 : w5.cell? ⟨w.heap.size, 0, none⟩ = some (.int .i64 o) := by rw [Lib.cell_of_heap hblk5.out]; rfl
  have y2 : w5.cell? ⟨w.heap.size, 2, none⟩ = some (.int .i64 m) := by rw [Lib.cell_of_heap hblk5.out]; rfl
  have hB5 := mkHid hb5
  have hk5' := mkHid hk5
  have hsz5 : w.heap.size + 1 ≤ w5.heap.size := by
    have := (Array.getElem?_eq_some_iff.1 hblk5.out).1
    omega
  clear hb5 hk5 x0 x1 x2 x3 z0 z3
  by_cases h15 : o = 15
  · subst h15
    obtain ⟨hm0, hm1⟩ := HM.out rfl
    have HR2 := mkHid (show R = 32 :: (tbs kMod ++ (32 :: tbs (dec m.toNat))) by rw [HR.out]; simp)
    clear HR
    have hW5 := mkHid (hW4.out.trans (hk5'.out.low hb))
    have DG := mkHid (digits_show m w5 hm0 hm1 (hpw.out.below hW5.out hpw.out.lt))
    clear HM hm0 hm1
    go_wp2_with (fail)
    refine DG.out.mono ?_
    rintro e w6 ⟨rfl, hB6⟩
    have P2 := mkHid (put2 (hB5.out.below hB6) ⟨#[32, 109, 111, 100, 32]⟩ (dec m.toNat) (by have := HL.out; rw [HR2.out] at this; simp only [List.length_append, List.length_cons, tb_len, blk_size] at this ⊢; have e5 : (⟨#[32, 109, 111, 100, 32]⟩ : ByteArray).size = 5 := rfl; have e3 : kMod.size = 3 := rfl; rw [e5]; rw [e3] at this; omega) rfl)
    have hk6 := mkHid (Kw.of hB6 (by omega : b ≤ w5.heap.size))
    clear hB6
    go_wp2_with (fail)
    refine P2.out.mono ?_
    rintro e w7 ⟨rfl, hb7, hk7⟩
    have hbz := mkHid hb7
    have hkz := mkHid (((((hK1.out.trans hk3'.out).trans hk4'.out).trans hk5'.out).trans hk6.out).trans hk7)
    clear hb7 hk7
    go_wp2
    go_end0
    refine ⟨rfl, ?_, hkz.out⟩
    have := hbz.out
    rw [tb_blk] at this
    have e1 : tbs ⟨#[32, 109, 111, 100, 32]⟩ = 32 :: (tbs kMod ++ [32]) := rfl
    rw [e1] at this
    rw [HR2.out]
    simpa [List.append_assoc] using this
  · have h15' : (o == 15) = false := by rw [beq_eq_false_iff_ne]; exact h15
    have HR2 := mkHid (show R = [] by rw [HR.out]; simp [h15])
    clear HR
    clear h15
    go_wp2
    go_end0
    refine ⟨rfl, ?_, ((hK1.out.trans hk3'.out).trans hk4'.out).trans hk5'.out⟩
    have := hB5.out
    rw [tb_blk] at this
    rw [HR2.out]
    simpa [List.append_assoc] using this
end Go.Proofs.YtncgmnijgdfenaaDoor.Gl
