/- Layer 3: the document's Value, Number. -/
import Derived.Test.YtkanjgphmafjbaaWoD
import Derived.Deep.DeepCutAuto
import Derived.Deep.LoopGhost
import Derived.Deep.DrawnRows
namespace Go.Proofs.Ytkanjgphmafjbaa.Wo
open Go.RowKit
open Go.Proofs.Ytkanjgphmafjbaa.Wd (Mg nOf eOf of_b plus_b fits_in cell_two free_two two_below big64)
set_option linter.unusedVariables false
attribute [local go_sem ↓] Go.wp_at_zero Go.wp_at_succ

/-- the number x in the variable at block V, nothing yet in the result's place R -/
structure Vb (w wr : World) (R V : Nat) (b : Bool) (ao : Option Addr) (l c : Nat) (x : Int) : Prop where
  c0 : wr.cell? ⟨V, 0, none⟩ = some (.bool b)
  c1 : wr.cell? ⟨V, 1, none⟩ = some (.slice ao l c)
  f0 : wr.frozen? ⟨V, 0, none⟩ = false
  f1 : wr.frozen? ⟨V, 1, none⟩ = false
  r0 : wr.cell? ⟨R, 0, none⟩ = some (.bool false)
  r1 : wr.cell? ⟨R, 1, none⟩ = some (.slice none 0 0)
  g0 : wr.frozen? ⟨R, 0, none⟩ = false
  g1 : wr.frozen? ⟨R, 1, none⟩ = false
  mg : Mg wr ao l c x.natAbs
  sg : Hid (b = decide (x < 0))
  bel : Below w.heap.size w wr
  o0 : w.heap.size ≤ R
  o1 : R < V
  o2 : V < wr.heap.size
theorem Vb.below {w wr w' : World} {R V : Nat} {b : Bool} {ao : Option Addr} {l c : Nat} {x : Int} (h : Vb w wr R V b ao l c x) (hb : Below wr.heap.size wr w') : Vb w w' R V b ao l c x := by
  have h1 := h.o1
  have h2 := h.o2
  have hR : R < wr.heap.size := by omega
  exact ⟨(hb.cell (p := ⟨V, 0, none⟩) h2).trans h.c0, (hb.cell (p := ⟨V, 1, none⟩) h2).trans h.c1, (hb.frozen (p := ⟨V, 0, none⟩) h2).trans h.f0, (hb.frozen (p := ⟨V, 1, none⟩) h2).trans h.f1,
    (hb.cell (p := ⟨R, 0, none⟩) hR).trans h.r0, (hb.cell (p := ⟨R, 1, none⟩) hR).trans h.r1, (hb.frozen (p := ⟨R, 0, none⟩) hR).trans h.g0, (hb.frozen (p := ⟨R, 1, none⟩) hR).trans h.g1,
    h.mg.below (Nat.le_refl _) hb, h.sg, h.bel.trans (hb.mono h.bel.size), h.o0, h.o1, Nat.lt_of_lt_of_le h2 hb.size⟩
theorem Vb.set {w wr : World} {R V : Nat} {b : Bool} {ao : Option Addr} {l c : Nat} {x : Int} (h : Vb w wr R V b ao l c x) {b' : Bool} {ao' : Option Addr} {l' c' : Nat} {y : Int} (hm : Mg wr ao' l' c' y.natAbs) (hs : Hid (b' = decide (y < 0))) :
    Vb w ((wr.setCell ⟨V, 0, none⟩ (.bool b')).setCell ⟨V, 1, none⟩ (.slice ao' l' c')) R V b' ao' l' c' y := by
  have h0 := h.o0
  have h1 := h.o1
  have e1 : (wr.setCell ⟨V, 0, none⟩ (.bool b')).cell? ⟨V, 1, none⟩ = some (.slice ao l c) := by
    rw [World.cell?_setCell_other]
    · exact h.c1
    · simp
  have e0 : (wr.setCell ⟨V, 0, none⟩ (.bool b')).cell? ⟨V, 0, none⟩ = some (.bool b') := World.cell?_setCell_same _ _ _ h.c0
  have hne : V ≠ R := by omega
  refine ⟨?_, World.cell?_setCell_same _ _ _ e1, by simpa using h.f0, by simpa using h.f1, ?_, ?_, by simpa using h.g0, by simpa using h.g1, hm.stored h.c0 h.c1 _, hs, two_below h.bel (by omega) _ _, h.o0, h.o1, by simpa using h.o2⟩
  · rw [World.cell?_setCell_other]
    · exact e0
    · simp
  · rw [World.cell?_setCell_other _ _ _ _ (by simp), World.cell?_setCell_other _ _ _ _ (by simp)]; exact h.r0
  · rw [World.cell?_setCell_other _ _ _ _ (by simp), World.cell?_setCell_other _ _ _ _ (by simp)]; exact h.r1
theorem Vb.start {w w1 : World} {b : Bool} {ao : Option Addr} {l c : Nat} {x : Int} (t : TypeId) (hB : Below (w.alloc (.cells #[.bool false, .slice none 0 0] t)).heap.size (w.alloc (.cells #[.bool false, .slice none 0 0] t)) w1) (hm : Mg w1 ao l c x.natAbs) (hs : Hid (b = decide (x < 0))) :
    Vb w (w1.alloc (.cells #[.bool b, .slice ao l c] t)) w.heap.size w1.heap.size b ao l c x := by
  have e := cell_two w1 _ rfl (.bool b) (.slice ao l c) t
  have f := free_two w1 _ rfl (.bool b) (.slice ao l c) t
  have e' := cell_two w _ rfl (.bool false) (.slice none 0 0) t
  have f' := free_two w _ rfl (.bool false) (.slice none 0 0) t
  have hz := hB.size
  rw [World.size_alloc] at hz
  have hN : Below w1.heap.size w1 (w1.alloc (.cells #[.bool b, .slice ao l c] t)) := (Below.refl _ _).alloc (Nat.le_refl _) _
  have hR : w.heap.size < (w.alloc (.cells #[.bool false, .slice none 0 0] t)).heap.size := by rw [World.size_alloc]; omega
  refine ⟨e.1, e.2, f.1, f.2, ?_, ?_, ?_, ?_, hm.below (Nat.le_refl _) hN, hs, ?_, Nat.le_refl _, by omega, by rw [World.size_alloc]; omega⟩
  · rw [hN.cell (p := ⟨w.heap.size, 0, none⟩) (by show w.heap.size < w1.heap.size; omega), hB.cell (p := ⟨w.heap.size, 0, none⟩) hR]; exact e'.1
  · rw [hN.cell (p := ⟨w.heap.size, 1, none⟩) (by show w.heap.size < w1.heap.size; omega), hB.cell (p := ⟨w.heap.size, 1, none⟩) hR]; exact e'.2
  · rw [hN.frozen (p := ⟨w.heap.size, 0, none⟩) (by show w.heap.size < w1.heap.size; omega), hB.frozen (p := ⟨w.heap.size, 0, none⟩) hR]; exact f'.1
  · rw [hN.frozen (p := ⟨w.heap.size, 1, none⟩) (by show w.heap.size < w1.heap.size; omega), hB.frozen (p := ⟨w.heap.size, 1, none⟩) hR]; exact f'.2
  · have h1 : Below w.heap.size w w1 := ((Below.refl _ _).alloc (Nat.le_refl _) _).trans (hB.mono (by rw [World.size_alloc]; omega))
    exact h1.trans (hN.mono h1.size)

set_option maxHeartbeats 4000000 in
theorem value_at (ao : Option Addr) (len cap : Nat) (zs : List Int) (w : World) (h : RdZ w ao len cap zs) (hb : Bin zs) (h0 : 0 < len) (h64 : len ≤ 64) :
    Calls Try.prog 34 #[.slice ao len cap] w fun e w' => ∃ b ro lr cr, e = .returned (.agg #[.bool b, .slice ro lr cr]) ∧ Hid (b = decide (tc zs < 0)) ∧ Mg w' ro lr cr (tc zs).natAbs ∧ Below w.heap.size w w' := by
  obtain ⟨n, rfl⟩ : ∃ n, len = n + 1 := ⟨len - 1, by omega⟩
  have HB : Hid (Bin zs) := hb
  have HL : Hid (zs.length = n + 1) := h.eqlen
  have hcap := h.lecap
  have hmax := h.lemax
  have h1' : ((n + 1 : Nat) : Int) - 1 = (n : Int) := by omega
  obtain ⟨b, off, rfl, hc⟩ := h.cell n (by omega)
  have hlt := World.block_lt_of_cell? _ _ hc
  have hc' : (w.alloc (.cells #[.bool false, .slice none 0 0] 59)).cell? ⟨b, off + n, none⟩ = some (.int .i64 (zs.getD n 0)) := by
    rw [World.cell?_of_block (Below.heap_alloc _ _ _ hlt)]; exact hc
  have HT : Hid (tc (zs.drop n) = -zs.getD n 0) := tc_last zs n HL.out
  have hz : 0 ≤ zs.getD n 0 ∧ zs.getD n 0 ≤ 1 := by
    have := HB.out (zs.getD n 0) (by rw [getD_of (by rw [HL.out]; omega)]; exact List.getElem_mem _)
    omega
  obtain ⟨hz0, hz1⟩ := hz
  clear hb hc
  generalize hy : zs.getD n 0 = y at *
  clear hy
  go_enter Try.func34, Try.ntmps34
  go_wp2_with (go_at_call 46; refine (of_b (-y) _ (by omega) (by omega)).mono ?_; rintro e w1 ⟨b1, o1, k1, c1, rfl, Hb1, hR1, hB1⟩)
  have hst := Vb.start 59 hB1 hR1 Hb1
  clear hc' hB1 hR1 Hb1
  go_loopg [5] n (fun m i wr => ∃ (b2 : Bool) (o2 : Option Addr) (k2 c2 : Nat), m ≤ n ∧ i = .int .i64 ((m : Int) - 1) ∧ Vb w wr w.heap.size w1.heap.size b2 o2 k2 c2 (tc (zs.drop m)))
  case atStart => exact ⟨b1, o1, k1, c1, Nat.le_refl _, by go_num, by rw [HT.out]; exact hst⟩
  case round =>
    clear hst
    obtain ⟨b2, o2, k2, c2, hm, rfl, hV⟩ := hrel
    rcases gk with _ | j
    · rw [List.drop_zero] at hV
      obtain ⟨x0, x1, xf0, xf1⟩ : wr.cell? ⟨w1.heap.size, 0, none⟩ = some (.bool b2) ∧ wr.cell? ⟨w1.heap.size, 1, none⟩ = some (.slice o2 k2 c2) ∧ wr.frozen? ⟨w1.heap.size, 0, none⟩ = false ∧ wr.frozen? ⟨w1.heap.size, 1, none⟩ = false := ⟨hV.c0, hV.c1, hV.f0, hV.f1⟩
      have r0 := hV.r0
      have r1 := hV.r1
      have rf0 := hV.g0
      have rf1 := hV.g1
      go_wp2
      exact bodyPost_ret (v := .agg #[.bool b2, .slice o2 k2 c2]) (by simp [results, Try.results34, go_sem, r0, r1]) rfl ⟨b2, o2, k2, c2, rfl, hV.sg, hV.mg.stored r0 r1 _, two_below hV.bel (Nat.le_refl _) _ _⟩
    · rw [show ((j + 1 : Nat) : Int) - 1 = (j : Int) from by omega]
      obtain ⟨b', off', e', hc⟩ := (h.below (Nat.le_refl _) hV.bel).cell j (by omega)
      obtain ⟨rfl, rfl⟩ : b = b' ∧ off = off' := by simpa using e'
      have hs := tc_small zs n j HB.out HL.out h64 (by omega)
      obtain ⟨hs0, hs1⟩ := hs
      have HD : Hid (tc (zs.drop j) = tc (zs.drop (j + 1)) + tc (zs.drop (j + 1)) + zs.getD j 0) := by
        show _ = _
        rw [tc_drop zs j (by rw [HL.out]; omega)]; omega
      have hx : 0 ≤ zs.getD j 0 ∧ zs.getD j 0 ≤ 1 := by
        have := HB.out (zs.getD j 0) (by rw [getD_of (by rw [HL.out]; omega)]; exact List.getElem_mem _)
        omega
      obtain ⟨hx0, hx1⟩ := hx
      have hltb := World.block_lt_of_cell? _ _ hc
      clear e'
      generalize hxx : zs.getD j 0 = d at *
      generalize hyy : tc (zs.drop (j + 1)) = x at *
      clear hxx hyy
      have hVd := hV.below ((Below.refl _ _).drew)
      have HV : Hid (Vb w wr w.heap.size w1.heap.size b2 o2 k2 c2 x) := hV
      obtain ⟨x0, x1, xf0, xf1⟩ : wr.cell? ⟨w1.heap.size, 0, none⟩ = some (.bool b2) ∧ wr.cell? ⟨w1.heap.size, 1, none⟩ = some (.slice o2 k2 c2) ∧ wr.frozen? ⟨w1.heap.size, 0, none⟩ = false ∧ wr.frozen? ⟨w1.heap.size, 1, none⟩ = false := ⟨hV.c0, hV.c1, hV.f0, hV.f1⟩
      clear hV
      go_wp2_with fail
      go_region_with (first
        | (go_at_call 46; refine (of_b d _ (by omega) (by omega)).mono ?_; rintro e w6 ⟨b6, o6, k6, c6, rfl, Hb6, hR6, hB6⟩; have hV6 := hV5.below hB6)
        | (go_at_call 47; have _t := hB6; refine (plus_b (x + x) d (x + x + d) b5 b6 o5 o6 k5 c5 k6 c6 _ Hb5.out Hb6.out (hR5.below (Nat.le_refl _) hB6) hR6 rfl (big64 _ (by omega))).mono ?_; rintro e w7 ⟨b7, o7, k7, c7, rfl, Hb7, hR7, hB7⟩; have hV7 := hV6.below hB7; obtain ⟨y0, y1, yf0, yf1⟩ : w7.cell? ⟨w1.heap.size, 0, none⟩ = some (.bool b2) ∧ w7.cell? ⟨w1.heap.size, 1, none⟩ = some (.slice o2 k2 c2) ∧ w7.frozen? ⟨w1.heap.size, 0, none⟩ = false ∧ w7.frozen? ⟨w1.heap.size, 1, none⟩ = false := ⟨hV7.c0, hV7.c1, hV7.f0, hV7.f1⟩)
        | (go_at_call 47; refine (plus_b x x (x + x) b2 b2 o2 o2 k2 c2 k2 c2 _ hVd.sg.out hVd.sg.out hVd.mg hVd.mg rfl (big64 _ (by omega))).mono ?_; rintro e w5 ⟨b5, o5, k5, c5, rfl, Hb5, hR5, hB5⟩; have hV5 := hVd.below hB5; have hc5 := (hB5.cell (p := ⟨b, off + j, none⟩) hltb).trans hc))
      all_goals
        have hV8 := hV7.set hR7 Hb7
        clear hVd HV x0 x1 xf0 xf1
        go_wp2
        go_roundg j
        case measure => omega
        case rel => exact ⟨b7, o7, k7, c7, by omega, rfl, by rw [HD.out]; exact hV8⟩
theorem rnumber_none (ao : Option Addr) (cap : Nat) (w : World) :
    Calls Try.prog 11 #[.slice ao 0 cap] w fun e w' => e = .returned (.tuple #[.int .i64 0, .int .i64 3]) ∧ w = w' := by
  go_enter Try.func11, Try.ntmps11
  go_wp2
  go_ret2
  exact ⟨rfl, rfl⟩
/-- what is answered of these digits -/
def numV (zs : List Int) (v e : Int) : Prop := (zs = [] → v = 0 ∧ e = 3) ∧ (¬ Bin zs → v = 0 ∧ e = 3) ∧ (zs ≠ [] → Bin zs → 64 < zs.length → v = 0 ∧ e = 31) ∧ (zs ≠ [] → Bin zs → zs.length ≤ 64 → v = tc zs ∧ e = 0)
theorem tc_64 (zs : List Int) (hb : Bin zs) (h0 : 0 < zs.length) (h64 : zs.length ≤ 64) : -9223372036854775808 ≤ tc zs ∧ tc zs ≤ 9223372036854775807 := by
  have h1 := ln_tc zs hb (List.length_pos_iff.1 h0)
  have h2 : ln (tc zs) ≤ 63 + 1 := by omega
  rw [ln_le, mag_iff] at h2
  have : (2 : Int) ^ 63 = 9223372036854775808 := by decide
  omega
set_option maxHeartbeats 2000000 in
theorem rnumber_some (ao : Option Addr) (len cap : Nat) (zs : List Int) (v er : Int) (w : World) (h : RdZ w ao len cap zs) (h0 : 0 < len) (hn : numV zs v er) :
    Calls Try.prog 11 #[.slice ao len cap] w fun e w' => e = .returned (.tuple #[.int .i64 v, .int .i64 er]) ∧ Below w.heap.size w w' := by
  have hcap := h.lecap
  have hmax := h.lemax
  have HL : Hid (zs.length = len) := h.eqlen
  have HN : Hid (numV zs v er) := hn
  have h0' : ((len : Int) == 0) = false := by simp; omega
  have hne : Hid (zs ≠ []) := List.length_pos_iff.1 (by rw [HL.out]; exact h0)
  clear hn
  go_enter Try.func11, Try.ntmps11
  go_wp2
  go_loop [4] (fun i => ∃ k : Nat, k ≤ len ∧ i = .int .i64 k ∧ Hid (∀ j, j < k → zs.getD j 0 = 0 ∨ zs.getD j 0 = 1)) (fun i => len - (intOf i).toNat)
  case atStart => exact ⟨0, Nat.zero_le _, rfl, fun j hj => absurd hj (by omega)⟩
  case round =>
    obtain ⟨k, hk, rfl, hall⟩ := hrel
    by_cases hlt : k < len
    · obtain ⟨b, off, rfl, hc⟩ := h.cell k hlt
      by_cases hd0 : zs.getD k 0 = 0
      · have HD : Hid (zs.getD k 0 = 0) := hd0
        rw [hd0] at hc
        clear hd0
        go_wp2
        go_round
        case rel =>
          refine ⟨k + 1, by omega, by go_num, fun j hj => ?_⟩
          rcases Nat.lt_succ_iff_lt_or_eq.1 hj with hj | rfl
          · exact hall.out j hj
          · exact .inl HD.out
        case measure => simp [intOf]; omega
      · by_cases hd1 : zs.getD k 0 = 1
        · have HD : Hid (zs.getD k 0 = 1) := hd1
          rw [hd1] at hc
          clear hd0 hd1
          go_wp2
          go_round
          case rel =>
            refine ⟨k + 1, by omega, by go_num, fun j hj => ?_⟩
            rcases Nat.lt_succ_iff_lt_or_eq.1 hj with hj | rfl
            · exact hall.out j hj
            · exact .inr HD.out
          case measure => simp [intOf]; omega
        · have HB : Hid (¬ Bin zs) := fun hb => by
            rcases hb (zs.getD k 0) (by rw [getD_of (by rw [HL.out]; exact hlt)]; exact List.getElem_mem _) with e | e
            · exact hd0 e
            · exact hd1 e
          have HE : Hid (v = 0 ∧ er = 3) := HN.out.2.1 HB.out
          generalize hxx : zs.getD k 0 = x at *
          clear hxx
          have e0 : (x != 0) = true := by simpa using hd0
          have e1 : (x != 1) = true := by simpa using hd1
          go_wp2
          go_ret2
          exact ⟨ret2 HE.out.1.symm HE.out.2.symm, Below.refl _ _⟩
    · obtain rfl : k = len := by omega
      have HB : Hid (Bin zs) := by
        intro z hz
        obtain ⟨i, hi, rfl⟩ := List.getElem_of_mem hz
        have := hall.out i (by rw [← HL.out]; exact hi)
        rwa [getD_of hi] at this
      by_cases h64 : 64 < k
      · have HE : Hid (v = 0 ∧ er = 31) := HN.out.2.2.1 hne.out HB.out (by rw [HL.out]; exact h64)
        go_wp2
        go_ret2
        exact ⟨ret2 HE.out.1.symm HE.out.2.symm, Below.refl _ _⟩
      · have HE : Hid (v = tc zs ∧ er = 0) := HN.out.2.2.2 hne.out HB.out (by rw [HL.out]; omega)
        have HC : Hid (-9223372036854775808 ≤ tc zs ∧ tc zs ≤ 9223372036854775807) := tc_64 zs HB.out (by rw [HL.out]; exact h0) (by rw [HL.out]; omega)
        go_wp2_with (first
          | (go_at_call 34; refine (value_at _ _ _ zs _ h HB.out h0 (by omega)).mono ?_; rintro e w2 ⟨b, ro, lr, cr, rfl, Hs, hM, hB2⟩)
          | (go_at_call 33; refine (fits_in (tc zs) b ro lr cr _ Hs hM HC.out.1 HC.out.2).mono ?_; rintro e w3 ⟨rfl, hB3⟩))
        go_ret2
        exact ⟨ret2 HE.out.1.symm HE.out.2.symm, hB2.trans (hB3.mono hB2.size)⟩
theorem rnumber_at (ao : Option Addr) (len cap : Nat) (zs : List Int) (v er : Int) (w : World) (h : RdZ w ao len cap zs) (hn : numV zs v er) :
    Calls Try.prog 11 #[.slice ao len cap] w fun e w' => e = .returned (.tuple #[.int .i64 v, .int .i64 er]) ∧ Below w.heap.size w w' := by
  by_cases h0 : 0 < len
  · exact rnumber_some ao len cap zs v er w h h0 hn
  · obtain rfl : len = 0 := by omega
    have he := hn.1 (List.length_eq_zero_iff.1 h.eqlen)
    rw [he.1, he.2]
    exact (rnumber_none ao cap w).mono fun _ _ ⟨a, b⟩ => ⟨a, of_eq b⟩
theorem number_at (ao : Option Addr) (len cap : Nat) (zs : List Int) (v er : Int) (w : World) (h : RdZ w ao len cap zs) (hn : numV zs v er) :
    Calls Try.prog 10 #[.slice ao len cap] w fun e w' => e = .returned (.tuple #[.int .i64 v, .int .i64 er]) ∧ w = w' := by
  by_cases h0 : 0 < len
  · have hne : zs ≠ [] := List.length_pos_iff.1 (by rw [h.eqlen]; exact h0)
    by_cases hb : Bin zs
    · by_cases h64 : 64 < len
      · have he := hn.2.2.1 hne hb (by rw [h.eqlen]; exact h64)
        rw [he.1, he.2]
        exact number_wide ao len cap zs w h hb h64
      · have he := hn.2.2.2 hne hb (by rw [h.eqlen]; omega)
        rw [he.1, he.2]
        exact number_in ao len cap zs w h hb h0 (by omega)
    · have he := hn.2.1 hb
      rw [he.1, he.2]
      exact number_shape ao len cap zs w h hb
  · obtain rfl : len = 0 := by omega
    have he := hn.1 (List.length_eq_zero_iff.1 h.eqlen)
    rw [he.1, he.2]
    exact number_none ao cap w
theorem numV_is (zs : List Int) : ∃ v e, numV zs v e := by
  by_cases h0 : zs = []
  · exact ⟨0, 3, fun _ => ⟨rfl, rfl⟩, fun _ => ⟨rfl, rfl⟩, fun h => absurd h0 h, fun h => absurd h0 h⟩
  · by_cases hb : Bin zs
    · by_cases h64 : 64 < zs.length
      · exact ⟨0, 31, fun h => absurd h h0, fun h => absurd hb h, fun _ _ _ => ⟨rfl, rfl⟩, fun _ _ h => by omega⟩
      · exact ⟨tc zs, 0, fun h => absurd h h0, fun h => absurd hb h, fun _ _ h => absurd h h64, fun _ _ _ => ⟨rfl, rfl⟩⟩
    · exact ⟨0, 3, fun _ => ⟨rfl, rfl⟩, fun _ => ⟨rfl, rfl⟩, fun _ h => absurd h hb, fun _ h => absurd h hb⟩
end Go.Proofs.Ytkanjgphmafjbaa.Wo
