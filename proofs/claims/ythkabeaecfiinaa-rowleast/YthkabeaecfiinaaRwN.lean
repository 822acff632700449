/- RowLeast where the rows are unlike; the walk. -/
import Derived.Test.YthkabeaecfiinaaRwL
namespace Go.Proofs.Ythkabeaecfiinaa.Ro
open Go.RowKit
set_option linter.unusedVariables false

set_option maxRecDepth 100000 in
set_option maxHeartbeats 4000000 in
theorem least_diff (ao bo : Option Addr) (n c1 c2 k : Nat) (T U : List Int) (w : World) (h : RdZ w ao n c1 T) (g : RdZ w bo n c2 U) (hk : k < 6) (hT : IsRow T k) (hU : IsRow U k) (hne : T ≠ U) :
    Calls Try.prog 6 #[.slice ao n c1, .slice bo n c2] w fun e w' => e = .returned (.bool true) ∧ Below w.heap.size w w' := by
  obtain ⟨_, hl, hp⟩ := hT
  obtain ⟨_, ul, up⟩ := hU
  have hn := h.eqlen
  have hp6 : 2 ^ k ≤ 2 ^ 5 := Nat.pow_le_pow_right (by omega) (by omega)
  have hn32 : n ≤ 32 := by omega
  have hnk : n = 2 ^ k := by omega
  have H1 : Hid (packV T (cb0 k T) 0) := .inl ⟨k, ⟨by omega, hl, hp⟩, rfl, rfl⟩
  have H2 : Hid (packV U (cb0 k U) 0) := .inl ⟨k, ⟨by omega, ul, up⟩, rfl, rfl⟩
  have HW : Hid (packV (T ++ U) ((cb0 k T).map (upA n) ++ (cb0 k U).map (upB n)) 0) := .inl ⟨k + 1, ⟨by omega, by rw [List.length_append, hl, ul, pow_dbl], fun z hz => by
    rcases List.mem_append.1 hz with h | h
    · exact hp z h
    · exact up z h⟩, by rw [hnk]; exact (cb0_both k T U hl hne).symm, rfl⟩
  have HO1 : Hid (∀ x ∈ cb0 k T, bits .or .i64 x.m (n : Int) = x.m + (n : Int) ∧ bits .or .i64 x.b (n : Int) = x.b + (n : Int)) := fun x hx => by rw [hnk]; exact or_at k hk T x hx
  have HO2 : Hid (∀ x ∈ cb0 k U, bits .or .i64 x.m (n : Int) = x.m + (n : Int) ∧ bits .or .i64 x.b (n : Int) = x.b + (n : Int)) := fun x hx => by rw [hnk]; exact or_at k hk U x hx
  have HNC : Hid (¬ cb0 k T = cb0 k U) := fun e => hne (cb0_inj (by omega) hl ul e)
  have HNE : Hid (¬ T = U) := hne
  have hb1 : (cb0 k T).length ≤ 32 := by have := cb0_len k T hl; omega
  have hb2 : (cb0 k U).length ≤ 32 := by have := cb0_len k U ul; omega
  have hm : n * 8 ≤ 140737488351232 := by omega
  have h32 : ¬ ((32 : Int) < (n : Int)) := by omega
  generalize cb0 k T = L at H1 HW HO1 HNC hb1
  generalize cb0 k U = M at H2 HW HO2 HNC hb2
  obtain ⟨X, hX⟩ : ∃ X, L.map (upA n) ++ M.map (upB n) = X := ⟨_, rfl⟩
  have HXl : Hid (X.length = L.length + M.length) := by show _ = _; rw [← hX, List.length_append, List.length_map, List.length_map]
  have HXa : Hid (∀ i, i < L.length → X.getD i default = upA n (L.getD i default)) := fun i hi => by rw [← hX, app_low _ _ i (by rw [List.length_map]; exact hi), map_getD _ _ i hi]
  have HXb : Hid (∀ j, j < M.length → X.getD (L.length + j) default = upB n (M.getD j default)) := fun j hj => by
    have := app_high (L.map (upA n)) (M.map (upB n)) j
    rw [List.length_map] at this
    rw [← hX, this, map_getD _ _ j hj]
  rw [hX] at HW
  clear hl hp hn hp6 hne ul up hnk hX
  obtain ⟨xl, hxl⟩ : ∃ xl, X.length = xl := ⟨_, rfl⟩
  have HXL : Hid (X.length = xl) := hxl
  have hsum : xl = L.length + M.length := by rw [← hxl]; exact HXl.out
  have HPW : Hid (∀ ao c w, RdZ w ao (n + n) c (T ++ U) → Calls Try.prog 9 #[.slice ao (n + n) c] w fun e w' => ∃ a' c', e = .returned (.tuple #[.slice a' xl c', .int .i64 0]) ∧ RdC w' a' xl c' X ∧ Below w.heap.size w w') := fun ao c w hz => by
    refine (pack_any ao _ c (T ++ U) X 0 w hz HW.out).mono ?_
    rintro e w1 ⟨a', c', rfl, hO, hB⟩
    rw [HXL.out] at hO ⊢
    exact ⟨a', c', rfl, rdc_own hO, hB⟩
  have kw3 : IntKind.i64.wrap ((L.length : Int) + (M.length : Int)) = (xl : Int) := by rw [IntKind.wrap_i64]; omega
  clear hxl HXl HW
  have hxl64 : xl ≤ 64 := by omega
  have HSU : Hid (xl = L.length + M.length) := hsum
  clear hsum
  go_enter Try.func6, Try.ntmps6
  go_wp2_with (first
    | (go_at_call 11; refine (fixed_at _).mono ?_; rintro e w1 ⟨rfl, hB1⟩; have hA1 := h.below (Nat.le_refl _) hB1)
    | (at_builtin; have _t := q8; refine wp_joinZ w8 w7.heap.size rfl (.tmp 56) (.tmp 57) rfl _ n T rfl bo n c2 U rfl hO8 hU8 hB8.size (by omega) ?_; intro v9 w9 hO9 hB9; have hW9 := hW8.trans (hB9.mono hW7.size); obtain ⟨a9, c9, rfl, hR9⟩ := rdz_of_owns hO9; clear q8 hO9)
    | (at_builtin; have _t := q7; refine wp_copyZ w7 w7 rfl (.tmp 54) (.tmp 55) rfl (Below.refl _ _) rfl ao n c1 T rfl hA7 hm ?_; intro a8 c8 w8 hR8 hB8 hO8; have hW8 := bt2 hW7 hB8; have hU8 := g.below (Nat.le_refl _) hW8; clear q7; have q8 : Hid True := trivial)
    | (at_builtin; have _t := q3; refine wp_copyZ w3 w3 rfl (.tmp 24) (.tmp 25) rfl (Below.refl _ _) rfl bo n c2 U rfl hU3 hm ?_; intro a4 c4 w4 hR4 hB4 hO4; clear hO4; have hW4 := bt2 hW3 hB4; clear q3)
    | (at_builtin; refine wp_copyZ w1 w1 rfl (.tmp 17) (.tmp 18) rfl (Below.refl _ _) rfl ao n c1 T rfl hA1 hm ?_; intro a2 c2' w2 hR2 hB2 hO2; clear hO2; have hW2 := bt2 hB1 hB2)
    | (go_at_call 9; have _t := hR9; refine (HPW.out _ _ _ hR9).mono ?_; rintro e w10 ⟨a10, c10, rfl, hX10, hB10⟩; have hW10 := bt2 hW9 hB10; have hc10 := (hc7.below (Nat.le_refl _) (hB8.trans hB9)).below (Nat.le_refl _) hB10; have hd10 := (hd7.below (Nat.le_refl _) (hB8.trans hB9)).below (Nat.le_refl _) hB10; have hA10 := h.below (Nat.le_refl _) hW10; have hG10 := g.below (Nat.le_refl _) hW10; clear hR9; have q10 : Hid True := trivial)
    | (go_at_call 9; have _t := hR4; refine (pack_any _ _ _ U M 0 _ hR4 H2.out).mono ?_; rintro e w5 ⟨a5, c5, rfl, hO5, hB5⟩; have hW5 := bt2 hW4 hB5; have hd5 := rdc_own hO5; have hc5 := (hc3.below (Nat.le_refl _) hB4).below (Nat.le_refl _) hB5)
    | (go_at_call 9; refine (pack_any _ _ _ T L 0 _ hR2 H1.out).mono ?_; rintro e w3 ⟨a3, c3, rfl, hO3, hB3⟩; have hW3 := bt2 hW2 hB3; have hU3 := g.below (Nat.le_refl _) hW3; have hc3 := rdc_own hO3; have q3 : Hid True := trivial)
    | (go_at_call 12; refine (cubes_at _ _ _ _ _ _ L M false _ hc5 hd5 ⟨fun e => (by cases e), fun e => absurd e HNC.out⟩).mono ?_; rintro e w6 ⟨rfl, hB6⟩; have hW6 := bt2 hW5 hB6; have hc6 := hc5.below (Nat.le_refl _) hB6; have hd6 := hd5.below (Nat.le_refl _) hB6; have hA6 := h.below (Nat.le_refl _) hW6; have hG6 := g.below (Nat.le_refl _) hW6)
    | (go_at_call 13; have _t := q10; refine (ints_at _ _ _ _ _ _ T U false _ hA10 hG10 ⟨fun e => (by cases e), fun e => absurd e HNE.out⟩).mono ?_; rintro e w11 ⟨rfl, hB11⟩; have hW11 := bt2 hW10 hB11; have hc11 := hc10.below (Nat.le_refl _) hB11; have hd11 := hd10.below (Nat.le_refl _) hB11; have hX11 := hX10.below (Nat.le_refl _) hB11)
    | (go_at_call 13; refine (ints_at _ _ _ _ _ _ T U false _ hA6 hG6 ⟨fun e => (by cases e), fun e => absurd e HNE.out⟩).mono ?_; rintro e w7 ⟨rfl, hB7⟩; have hW7 := bt2 hW6 hB7; have hc7 := hc6.below (Nat.le_refl _) hB7; have hd7 := hd6.below (Nat.le_refl _) hB7; have hA7 := h.below (Nat.le_refl _) hW7; have q7 : Hid True := trivial))
  have hxc := hX11.lecap
  have hxm := hX11.lemax
  have hcc := hc11.lecap
  have hcm := hc11.lemax
  have hdc := hd11.lecap
  have hdm := hd11.lemax
  go_loopw [80] (fun i wr => ∃ j : Nat, j ≤ xl ∧ i = .int .i64 j ∧ Below w11.heap.size w11 wr) (fun i _ => xl - (intOf i).toNat)
  case atStart => exact ⟨0, Nat.zero_le _, rfl, Below.refl _ _⟩
  case round =>
    obtain ⟨j, hj, rfl, hnx⟩ := hrel
    by_cases hlt : j < xl
    · obtain ⟨gx, ox, rfl, hgx, x0, x1, x2⟩ := (hX11.below (Nat.le_refl _) hnx).cell j hlt
      have hsz : w11.heap.size ≤ wr.heap.size := hnx.size
      by_cases hjl : j < L.length
      · obtain ⟨gc, oc, rfl, hgc, y0, y1, y2⟩ := (hc11.below (Nat.le_refl _) hnx).cell j hjl
        have hjl' : (j : Int) < (L.length : Int) := by omega
        rw [HXa.out j hjl] at x0 x1 x2
        obtain ⟨o0, o1⟩ := HO1.out _ (mem_getC hjl)
        generalize L.getD j default = y at x0 x1 x2 y0 y1 y2 o0 o1
        obtain ⟨ym, yb, yt⟩ := y
        simp only [upA] at x0 x1 x2 y0 y1 y2 o0 o1
        have z0 : ∀ u v, ((wr.alloc u).alloc v).cell? ⟨gc, oc + j * 3, none⟩ = some (.int .i64 ym) := fun u v => ((bta (bal wr u) v).cell hgc).trans y0
        have z1 : ∀ u v, ((wr.alloc u).alloc v).cell? ⟨gc, oc + j * 3 + 1, none⟩ = some (.int .i64 yb) := fun u v => ((bta (bal wr u) v).cell hgc).trans y1
        have z2 : ∀ u v, ((wr.alloc u).alloc v).cell? ⟨gc, oc + j * 3 + 2, none⟩ = some (.int .i64 yt) := fun u v => ((bta (bal wr u) v).cell hgc).trans y2
        clear o1
        go_wp2
        go_region
        go_wp2
        go_roundw
        case rel => exact ⟨j + 1, by omega, by go_num, (bta (bta hnx _) _).drew⟩
        case measure => simp [intOf]; omega
      · obtain ⟨p, hp⟩ : ∃ p, j = L.length + p := ⟨j - L.length, by omega⟩
        have hpM : p < M.length := by have := HSU.out; omega
        obtain ⟨gc, oc, rfl, hgc, y0, y1, y2⟩ := (hd11.below (Nat.le_refl _) hnx).cell p hpM
        have hjl' : ¬ ((j : Int) < (L.length : Int)) := by omega
        have hXj := HXb.out p hpM
        rw [← hp] at hXj
        rw [hXj] at x0 x1 x2
        obtain ⟨o0, o1⟩ := HO2.out _ (mem_getC hpM)
        generalize M.getD p default = y at x0 x1 x2 y0 y1 y2 o0 o1
        obtain ⟨ym, yb, yt⟩ := y
        simp only [upB] at x0 x1 x2 y0 y1 y2 o0 o1
        have z0 : ∀ u v, ((wr.alloc u).alloc v).cell? ⟨gc, oc + p * 3, none⟩ = some (.int .i64 ym) := fun u v => ((bta (bal wr u) v).cell hgc).trans y0
        have z1 : ∀ u v, ((wr.alloc u).alloc v).cell? ⟨gc, oc + p * 3 + 1, none⟩ = some (.int .i64 yb) := fun u v => ((bta (bal wr u) v).cell hgc).trans y1
        have z2 : ∀ u v, ((wr.alloc u).alloc v).cell? ⟨gc, oc + p * 3 + 2, none⟩ = some (.int .i64 yt) := fun u v => ((bta (bal wr u) v).cell hgc).trans y2
        have kp : IntKind.i64.wrap ((j : Int) - (L.length : Int)) = (p : Int) := by rw [IntKind.wrap_i64]; omega
        clear hXj hp
        go_wp2
        go_roundw
        case rel => exact ⟨j + 1, by omega, by go_num, bta (bta (bta hnx _) _) _⟩
        case measure => simp [intOf]; omega
    · obtain rfl : j = xl := by omega
      go_wp2
      go_ret
      exact ⟨rfl, bt2 hW11 hnx⟩
theorem least_walk (ao bo : Option Addr) (n m c1 c2 : Nat) (T U : List Int) (w : World) (h : RdZ w ao n c1 T) (g : RdZ w bo m c2 U) (hm : n * 8 ≤ 140737488351232) (gm : m * 8 ≤ 140737488351232) :
    Calls Try.prog 6 #[.slice ao n c1, .slice bo m c2] w fun e w' => e = .returned (.bool true) ∧ Below w.heap.size w w' := by
  obtain ⟨L1, e1, h1⟩ := packV_is T
  obtain ⟨L2, e2, h2⟩ := packV_is U
  by_cases ho : ¬ e1 = 0 ∨ ¬ e2 = 0 ∨ n ≠ m ∨ 32 < n
  · exact least_out ao bo n m c1 c2 T U w h g hm gm L1 L2 e1 e2 h1 h2 ho
  · obtain ⟨k, hT⟩ : ∃ k, IsRow T k := by
      rcases h1 with ⟨k, hk, _, _⟩ | ⟨_, _, e⟩
      · exact ⟨k, hk⟩
      · exact absurd (.inl (by omega)) ho
    obtain ⟨k', hU⟩ : ∃ k, IsRow U k := by
      rcases h2 with ⟨k, hk, _, _⟩ | ⟨_, _, e⟩
      · exact ⟨k, hk⟩
      · exact absurd (.inr (.inl (by omega))) ho
    have hnm : n = m := Classical.byContradiction fun e => ho (.inr (.inr (.inl e)))
    have hn32 : n ≤ 32 := Nat.not_lt.1 fun e => ho (.inr (.inr (.inr e)))
    subst hnm
    have e1 : 2 ^ k = n := by rw [← hT.2.1, h.eqlen]
    have e2 : 2 ^ k' = n := by rw [← hU.2.1, g.eqlen]
    obtain rfl : k = k' := (Nat.pow_right_inj (a := 2) (by omega)).1 (by omega)
    have hk : k < 6 := by
      rcases Nat.lt_or_ge k 6 with h6 | h6
      · exact h6
      · have : 2 ^ 6 ≤ 2 ^ k := Nat.pow_le_pow_right (by omega) h6
        omega
    by_cases he : T = U
    · subst he
      exact least_same ao bo n c1 c2 k T w h g hk hT
    · exact least_diff ao bo n c1 c2 k T U w h g hk hT hU he
end Go.Proofs.Ythkabeaecfiinaa.Ro
