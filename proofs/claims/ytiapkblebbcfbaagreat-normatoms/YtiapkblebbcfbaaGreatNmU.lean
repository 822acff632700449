/- The laws' same, numbers, normals, fixed. -/
import Derived.Test.YtiapkblebbcfbaaGreatNmT
namespace Go.Proofs.YtiapkblebbcfbaaGreat.Gl
open Go.RowKit
set_option linter.unusedVariables false
set_option linter.unusedSimpArgs false

set_option maxHeartbeats 2000000 in
theorem nsame_at (ao ao' : Option Addr) (n c m c' : Nat) (T U : List ByteArray) (r : Bool) (w : World) (h : RdS w ao n c T) (k : RdS w ao' m c' U) (hr : r = true ↔ T = U) :
    Calls Tryz.prog 8 #[.slice ao n c, .slice ao' m c'] w fun e w' => e = .returned (.bool r) ∧ Below w.heap.size w w' := by
  have hcn := h.lecap
  have hcx := h.lemax
  have hcm := k.lecap
  have hmx := k.lemax
  have HT : Hid (T.length = n) := h.eqlen
  have HU : Hid (U.length = m) := k.eqlen
  have HR : Hid (r = true ↔ T = U) := hr
  clear hr
  by_cases hnm : n = m
  · subst hnm
    go_enter Tryz.func8, Tryz.ntmps8
    go_wp2
    go_loopw [13] (fun i wr => ∃ j : Nat, j ≤ n ∧ i = .int .i64 j ∧ Hid (∀ a, a < j → T.getD a emp = U.getD a emp) ∧ Below w.heap.size w wr) (fun i _ => n - (intOf i).toNat)
    case atStart => exact ⟨0, Nat.zero_le _, rfl, fun a ha => absurd ha (by omega), Below.refl _ _⟩
    case round =>
      obtain ⟨j, hj, rfl, hall, hnx⟩ := hrel
      by_cases hlt : j < n
      · obtain ⟨g, o, rfl, hb⟩ := h.cell j hlt
        obtain ⟨g', o', rfl, hc⟩ := k.cell j hlt
        have hb' := (hnx.cell (World.block_lt_of_cell? _ _ hb)).trans hb
        have hc' := (hnx.cell (World.block_lt_of_cell? _ _ hc)).trans hc
        have hnd := hnx.drew
        clear hb hc
        by_cases he : T.getD j emp = U.getD j emp
        · have HE : Hid (T.getD j emp = U.getD j emp) := he
          rw [he] at hb'
          clear he
          obtain ⟨y, hy⟩ : ∃ y, U.getD j emp = y := ⟨_, rfl⟩
          rw [hy] at hb' hc'
          clear hy
          have hyy : (y.toList == y.toList) = true := (eqS_iff y y).2 rfl
          go_wp2
          go_region
          go_wp2
          go_roundw
          case rel =>
            refine ⟨j + 1, by omega, by go_num, fun a ha => ?_, hnd⟩
            rcases Nat.lt_succ_iff_lt_or_eq.1 ha with ha | rfl
            · exact hall.out a ha
            · exact HE.out
          case measure => simp [intOf]; omega
        · have HE : Hid (r = false) := by
            cases r with
            | false => rfl
            | true => exact absurd (by rw [HR.out.1 rfl]) he
          obtain ⟨x, hx⟩ : ∃ x, T.getD j emp = x := ⟨_, rfl⟩
          obtain ⟨y, hy⟩ : ∃ y, U.getD j emp = y := ⟨_, rfl⟩
          rw [hx] at hb' he
          rw [hy] at hc' he
          have hxy : (x.toList == y.toList) = false := by
            cases hq : (x.toList == y.toList) with
            | false => rfl
            | true => exact absurd ((eqS_iff x y).1 hq) he
          clear hx hy he
          go_wp2
          go_region
          go_wp2
          go_ret
          exact ⟨retb HE.out.symm, hnd⟩
      · obtain rfl : j = n := by omega
        have HE : Hid (r = true) := HR.out.2 (slist_eq j HT.out HU.out hall.out)
        go_wp2
        go_ret
        exact ⟨retb HE.out.symm, hnx⟩
  · have HE : Hid (r = false) := by
      cases r with
      | false => rfl
      | true => exact absurd (by rw [← HT.out, HR.out.1 rfl, HU.out]) hnm
    have hnm' : ¬ (n : Int) = (m : Int) := by omega
    have hB0 := Below.refl w.heap.size w
    go_enter Tryz.func8, Tryz.ntmps8
    go_wp2
    go_ret
    exact ⟨retb HE.out.symm, hB0⟩
theorem zlist_eq {T U : List Int} (n : Nat) (hT : T.length = n) (hU : U.length = n) (h : ∀ j, j < n → T.getD j 0 = U.getD j 0) : T = U := by
  apply List.ext_getElem (by omega)
  intro j h1 h2
  have := h j (by omega)
  rwa [getD_of h1, getD_of h2] at this
set_option maxHeartbeats 2000000 in
theorem numbers_at (ao ao' : Option Addr) (n c m c' : Nat) (T U : List Int) (r : Bool) (w : World) (h : RdZ w ao n c T) (k : RdZ w ao' m c' U) (hr : r = true ↔ T = U) :
    Calls Tryz.prog 9 #[.slice ao n c, .slice ao' m c'] w fun e w' => e = .returned (.bool r) ∧ Below w.heap.size w w' := by
  have hcn := h.lecap
  have hcx := h.lemax
  have hcm := k.lecap
  have hmx := k.lemax
  have HT : Hid (T.length = n) := h.eqlen
  have HU : Hid (U.length = m) := k.eqlen
  have HR : Hid (r = true ↔ T = U) := hr
  clear hr
  by_cases hnm : n = m
  · subst hnm
    go_enter Tryz.func9, Tryz.ntmps9
    go_wp2
    go_loopw [13] (fun i wr => ∃ j : Nat, j ≤ n ∧ i = .int .i64 j ∧ Hid (∀ a, a < j → T.getD a 0 = U.getD a 0) ∧ Below w.heap.size w wr) (fun i _ => n - (intOf i).toNat)
    case atStart => exact ⟨0, Nat.zero_le _, rfl, fun a ha => absurd ha (by omega), Below.refl _ _⟩
    case round =>
      obtain ⟨j, hj, rfl, hall, hnx⟩ := hrel
      by_cases hlt : j < n
      · obtain ⟨g, o, rfl, hb⟩ := h.cell j hlt
        obtain ⟨g', o', rfl, hc⟩ := k.cell j hlt
        have hb' := (hnx.cell (World.block_lt_of_cell? _ _ hb)).trans hb
        have hc' := (hnx.cell (World.block_lt_of_cell? _ _ hc)).trans hc
        have hnd := hnx.drew
        clear hb hc
        by_cases he : T.getD j 0 = U.getD j 0
        · have HE : Hid (T.getD j 0 = U.getD j 0) := he
          rw [he] at hb'
          clear he
          obtain ⟨y, hy⟩ : ∃ y, U.getD j 0 = y := ⟨_, rfl⟩
          rw [hy] at hb' hc'
          clear hy
          go_wp2
          go_region
          go_wp2
          go_roundw
          case rel =>
            refine ⟨j + 1, by omega, by go_num, fun a ha => ?_, hnd⟩
            rcases Nat.lt_succ_iff_lt_or_eq.1 ha with ha | rfl
            · exact hall.out a ha
            · exact HE.out
          case measure => simp [intOf]; omega
        · have HE : Hid (r = false) := by
            cases r with
            | false => rfl
            | true => exact absurd (by rw [HR.out.1 rfl]) he
          obtain ⟨x, hx⟩ : ∃ x, T.getD j 0 = x := ⟨_, rfl⟩
          obtain ⟨y, hy⟩ : ∃ y, U.getD j 0 = y := ⟨_, rfl⟩
          rw [hx] at hb' he
          rw [hy] at hc' he
          clear hx hy
          go_wp2
          go_region
          go_wp2
          go_ret
          exact ⟨retb HE.out.symm, hnd⟩
      · obtain rfl : j = n := by omega
        have HE : Hid (r = true) := HR.out.2 (zlist_eq j HT.out HU.out hall.out)
        go_wp2
        go_ret
        exact ⟨retb HE.out.symm, hnx⟩
  · have HE : Hid (r = false) := by
      cases r with
      | false => rfl
      | true => exact absurd (by rw [← HT.out, HR.out.1 rfl, HU.out]) hnm
    have hnm' : ¬ (n : Int) = (m : Int) := by omega
    have hB0 := Below.refl w.heap.size w
    go_enter Tryz.func9, Tryz.ntmps9
    go_wp2
    go_ret
    exact ⟨retb HE.out.symm, hB0⟩
/-- Atom, whatever the formula -/
theorem atom_any (W : World) (f : Fm) (v : Value) (w : World) (hv : FmV W f v) (hW : Below W.heap.size W w) :
    Calls Tryz.prog 10 #[v] w fun e w' => ∃ v', e = .returned v' ∧ ArV w.heap.size w' (atm f) v' ∧ Below w.heap.size w w' := by
  by_cases h0 : chk nmB f = 0
  · by_cases h1 : f.op < 9
    · exact atom_low W f v w hv hW h0 h1
    · cases f with
      | mk o x m t a =>
        obtain ⟨⟨s, u, rfl⟩, rfl, -⟩ := fm_atom (fm_right h0).1 h1
        exact atom_atom W o m x s u v w hv hW h0 h1
  · exact atom_bad W f v w hv hW h0
/-- an atom made of two terms -/
theorem mk_atom {W : World} {s t : Tm} {c0 c1 c2 c3 d0 d1 d2 d3 : Value} {T : TypeId} {g : Nat} (hs : RdT W s c0 c1 c2 c3) (ht : RdT W t d0 d1 d2 d3) (o : Int) (ho : I64 o) (hg : W.heap.size = g) :
    FmV (W.alloc (.cells #[c0, c1, c2, c3, d0, d1, d2, d3] T)) (.mk o emp 0 [s, t] []) (.agg #[.int .i64 o, .string emp, .int .i64 0, .slice (some ⟨g, 0, none⟩) 2 2, .slice none 0 0]) := by
  subst hg
  have hR := rb_new W #[c0, c1, c2, c3, d0, d1, d2, d3] T
  have hb := bal W (.cells #[c0, c1, c2, c3, d0, d1, d2, d3] T)
  have h1 := RdT.kept hb s _ _ _ _ hs
  have h2 := RdT.kept hb t _ _ _ _ ht
  refine ⟨_, _, _, _, _, rfl, ?_⟩
  rw [RdF]
  refine ⟨rfl, rfl, rfl, ⟨ho, ⟨by decide, by decide⟩, by decide⟩, ⟨some ⟨W.heap.size, 0, none⟩, 2, rfl, Nat.le_refl _, by decide, ?_⟩, none, 0, rfl, Nat.le_refl _, by decide, by rw [RdFL]; trivial⟩
  rw [RdTL, RdTL, RdTL]
  exact ⟨⟨W.heap.size, 0, c0, c1, c2, c3, rfl, (Array.getElem?_eq_some_iff.1 hR).1, (txcell (vs := #[c0, c1, c2, c3, d0, d1, d2, d3]) hR 0 _ rfl).1, (txcell (vs := #[c0, c1, c2, c3, d0, d1, d2, d3]) hR 1 _ rfl).1, (txcell (vs := #[c0, c1, c2, c3, d0, d1, d2, d3]) hR 2 _ rfl).1, (txcell (vs := #[c0, c1, c2, c3, d0, d1, d2, d3]) hR 3 _ rfl).1, h1⟩, ⟨W.heap.size, 0, d0, d1, d2, d3, rfl, (Array.getElem?_eq_some_iff.1 hR).1, (txcell (vs := #[c0, c1, c2, c3, d0, d1, d2, d3]) hR 4 _ rfl).1, (txcell (vs := #[c0, c1, c2, c3, d0, d1, d2, d3]) hR 5 _ rfl).1, (txcell (vs := #[c0, c1, c2, c3, d0, d1, d2, d3]) hR 6 _ rfl).1, (txcell (vs := #[c0, c1, c2, c3, d0, d1, d2, d3]) hR 7 _ rfl).1, h2⟩, trivial⟩
theorem leaf_t {W : World} (o n : Int) (x : ByteArray) (h : I64 o ∧ I64 n ∧ Sz x.size) : RdT W (.mk o n x []) (.int .i64 o) (.int .i64 n) (.string x) (.slice none 0 0) := by
  rw [RdT]
  exact ⟨rfl, rfl, rfl, h, none, 0, rfl, Nat.le_refl _, by decide, by rw [RdTL]; trivial⟩
abbrev ex1 : ByteArray := ⟨#[120]⟩
theorem ex1_name : IsName ex1 := by
  refine ⟨⟨1, by unfold IsCnt; decide +kernel, by omega, by omega, ?_⟩, by decide +kernel⟩
  intro j hj
  obtain rfl : j = 0 := by omega
  decide +kernel
theorem fixed_chk : chk nmB (.mk 12 emp 0 [.mk 1 0 ex1 [], .mk 0 1 emp []] []) = 0 := by
  rw [chk_iff]
  have h1 : nmB ex1 = true := (nmB_iff _).2 ex1_name
  refine ⟨by decide, by decide, ?_⟩
  show (wF nmB 12 emp 0 2 0 && (wT nmB 1 0 ex1 0 && true && (wT nmB 0 1 emp 0 && true && true)) && true) = true
  have e1 : wT nmB 1 0 ex1 0 = true := by unfold wT; rw [if_neg (by decide), if_pos rfl, h1]; rfl
  have e2 : wF nmB 12 emp 0 2 0 = true := by unfold wF; rw [if_neg (by decide), if_neg (by decide), if_pos (by decide)]; decide +kernel
  have e3 : wT nmB 0 1 emp 0 = true := by unfold wT; rw [if_pos rfl]; decide +kernel
  rw [e1, e2, e3]
  rfl
theorem fixed_atm : atm (.mk 12 emp 0 [.mk 1 0 ex1 [], .mk 0 1 emp []] []) = .ok ⟨0, [ex1], [-1], -2, 0⟩ := by
  rw [atm_at fixed_chk (by decide)]
  show atmS 12 0 [.mk 1 0 ex1 [], .mk 0 1 emp []] = _
  unfold atmS
  show (match lin (.mk 1 0 ex1 []) with | .er e => Ar.er e | .ok a => match lin (.mk 0 1 emp []) with | .er e => Ar.er e | .ok b => nrmS 12 0 a b) = _
  rw [lin_name, lin_num, mkS_yes (by decide)]
  show nrmS 12 0 ⟨[ex1], [1], 0⟩ ⟨[], [], 1⟩ = _
  have hc : cof ex1 [ex1] [1] = 1 := by unfold cof; rw [if_pos (by simp)]
  have hc0 : cof ex1 [] [] = 0 := by unfold cof; rfl
  have hD : difS 12 ⟨[ex1], [1], 0⟩ ⟨[], [], 1⟩ = ⟨[ex1], [-1], 1⟩ := by
    unfold difS
    rw [if_pos (by decide)]
    show Sm.mk [ex1] [cof ex1 [] [] - cof ex1 [ex1] [1]] (1 - 0) = _
    rw [hc, hc0]
    rfl
  unfold nrmS
  rw [hD, if_pos ⟨by decide, by decide, by decide⟩]
  have hn : nrOf 12 0 ⟨[ex1], [-1], 1⟩ = ⟨0, [ex1], [-1], -2, 0⟩ := by unfold nrOf; rw [if_neg (by decide)]; rfl
  rw [hn, if_pos (by unfold tight; decide)]
set_option maxRecDepth 100000 in
set_option maxHeartbeats 4000000 in
theorem nfixed_at (w : World) : Calls Tryz.prog 7 #[] w fun e w' => e = .returned (.bool true) ∧ Below w.heap.size w w' := by
  have hB1 := bal w (.cells #[.int .i64 1, .int .i64 0, .string ex1, .slice none 0 0] 25)
  have hF := mk_atom (T := 25) (leaf_t (W := w.alloc (.cells #[.int .i64 1, .int .i64 0, .string ex1, .slice none 0 0] 25)) 1 0 ex1 ⟨⟨by decide, by decide⟩, ⟨by decide, by decide⟩, by decide⟩) (leaf_t 0 1 emp ⟨⟨by decide, by decide⟩, ⟨by decide, by decide⟩, by decide⟩) 12 ⟨by decide, by decide⟩ (show _ = w.heap.size + 1 by simp)
  have AC := mkHid (atom_any _ _ _ _ hF (Below.refl _ _))
  rw [fixed_atm] at AC
  have hB2 := bt2 hB1 (bal _ (.cells #[.int .i64 1, .int .i64 0, .string ex1, .slice none 0 0, .int .i64 0, .int .i64 1, .string emp, .slice none 0 0] 25))
  go_enter Tryz.func7, Tryz.ntmps7
  go_wp2_with (fail)
  refine AC.out.mono ?_
  rintro e w3 ⟨v, rfl, ⟨no, co, n, c, o, d, rfl, hN, -, -⟩, hB3⟩
  have hB13 := bt2 hB2 hB3
  have hNs := hN.ns
  have hZs := hN.cs
  have hln : n = 1 := hNs.eqlen.symm
  have hlo : o = 1 := hZs.eqlen.symm
  subst hln hlo
  have hB4 := bal w3 (.cells (nrA 0 (-2) 0 no co 1 c 1 d) 44)
  have hB5 := bt2 hB4 (bal (w3.alloc (.cells (nrA 0 (-2) 0 no co 1 c 1 d) 44)) (.cells #[.string ex1] 9))
  have S1 := mkHid (nsame_at no (some ⟨w3.heap.size + 1, 0, none⟩) 1 c 1 1 [ex1] [ex1] true ((w3.alloc (.cells (nrA 0 (-2) 0 no co 1 c 1 d) 44)).alloc (.cells #[.string ex1] 9)) (hNs.below (Nat.le_refl _) hB5) (rds_built _ [ex1] 1 9 (w3.heap.size + 1) (by simp) rfl (by decide)) ⟨fun _ => rfl, fun _ => rfl⟩)
  clear AC hF
  go_wp2_with (fail)
  refine S1.out.mono ?_
  rintro e w6 ⟨rfl, hB6⟩
  have hB36 := bt2 hB5 hB6
  have hR6 := (rb_new w3 (nrA 0 (-2) 0 no co 1 c 1 d) 44).keep (bt2 (bal _ _) hB6)
  have n2 : w6.cell? ⟨w3.heap.size, 2, none⟩ = some (.slice co 1 d) := (txcell (vs := nrA 0 (-2) 0 no co 1 c 1 d) hR6 2 _ rfl).1
  have hB7 := bal w6 (.cells #[.int .i64 (-1)] 2)
  have S2 := mkHid (numbers_at co (some ⟨w6.heap.size, 0, none⟩) 1 d 1 1 [-1] [-1] true (w6.alloc (.cells #[.int .i64 (-1)] 2)) (hZs.below (Nat.le_refl _) (bt2 hB36 hB7)) (rdz_built _ [-1] 1 2 w6.heap.size rfl rfl (by decide)) ⟨fun _ => rfl, fun _ => rfl⟩)
  clear S1
  go_wp2_with (fail)
  refine S2.out.mono ?_
  rintro e w8 ⟨rfl, hB8⟩
  have hR8 := hR6.keep (bt2 hB7 hB8)
  have n3 : w8.cell? ⟨w3.heap.size, 3, none⟩ = some (.int .i64 (-2)) := (txcell (vs := nrA 0 (-2) 0 no co 1 c 1 d) hR8 3 _ rfl).1
  clear S2 n2
  go_wp2_with (fail)
  go_ret
  exact ⟨rfl, bt2 hB13 (bt2 hB36 (bt2 hB7 hB8))⟩
end Go.Proofs.YtiapkblebbcfbaaGreat.Gl
