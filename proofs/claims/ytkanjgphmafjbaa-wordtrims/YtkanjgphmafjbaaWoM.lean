/- The document's Compare; WordTrims: the walk. -/
import Derived.Test.YtkanjgphmafjbaaWoL
import Derived.Deep.AppendLies
namespace Go.Proofs.Ytkanjgphmafjbaa.Wo
open Go.RowKit
set_option linter.unusedVariables false

set_option maxHeartbeats 2000000 in
theorem rcompare_at (ao bo : Option Addr) (n m c c' : Nat) (T U : List Int) (r : Int) (w : World) (h : RdZ w ao n c T) (k : RdZ w bo m c' U) (hr : r = cmp T U) :
    Calls Try.prog 28 #[.slice ao n c, .slice bo m c'] w fun e w' => e = .returned (.int .i64 r) ∧ Below w.heap.size w w' := by
  have hcn := h.lecap
  have hcx := h.lemax
  have hcm := k.lecap
  have hmx := k.lemax
  have HT : Hid (T.length = n) := h.eqlen
  have HU : Hid (U.length = m) := k.eqlen
  have HR : Hid (r = cmp T U) := hr
  have hB0 := Below.refl w.heap.size w
  clear hr
  by_cases h1 : n < m
  · have HE : Hid (r = -1) := by
      have := HR.out
      unfold cmp at this
      rwa [if_pos (by rw [HT.out, HU.out]; exact h1)] at this
    go_enter Try.func28, Try.ntmps28
    go_wp2
    go_ret
    exact ⟨ret1 HE.out.symm, hB0⟩
  · by_cases h2 : m < n
    · have HE : Hid (r = 1) := by
        have := HR.out
        unfold cmp at this
        rwa [if_neg (by rw [HT.out, HU.out]; exact h1), if_pos (by rw [HT.out, HU.out]; exact h2)] at this
      go_enter Try.func28, Try.ntmps28
      go_wp2
      go_ret
      exact ⟨ret1 HE.out.symm, hB0⟩
    · obtain rfl : n = m := by omega
      have HE : Hid (r = lex T U) := by
        have := HR.out
        unfold cmp at this
        rwa [if_neg (by rw [HT.out, HU.out]; omega), if_neg (by rw [HT.out, HU.out]; omega)] at this
      clear h1 h2
      go_enter Try.func28, Try.ntmps28
      go_wp2
      go_loopw [5] (fun i wr => ∃ j : Nat, j ≤ n ∧ i = .int .i64 j ∧ Hid (∀ a, a < j → T.getD a 0 = U.getD a 0) ∧ Below w.heap.size w wr) (fun i _ => n - (intOf i).toNat)
      case atStart => exact ⟨0, Nat.zero_le _, rfl, fun a ha => absurd ha (by omega), Below.refl _ _⟩
      case round =>
        obtain ⟨j, hj, rfl, hall, hB⟩ := hrel
        by_cases hlt : j < n
        · obtain ⟨g, o, rfl, hb⟩ := h.cell j hlt
          obtain ⟨g', o', rfl, hc⟩ := k.cell j hlt
          have hb' := (hB.cell (World.block_lt_of_cell? _ _ hb)).trans hb
          have hc' := (hB.cell (World.block_lt_of_cell? _ _ hc)).trans hc
          have hBd := hB.drew
          have hBdd := hBd.drew
          clear hb hc
          rcases Int.lt_trichotomy (T.getD j 0) (U.getD j 0) with he | he | he
          · have HE2 : Hid (r = -1) := HE.out.trans (lex_less T U j (by rw [HT.out]; exact hlt) (by rw [HU.out]; exact hlt) hall.out he)
            generalize hx : T.getD j 0 = x at *
            generalize hy : U.getD j 0 = y at *
            clear hx hy
            go_wp2
            go_region
            go_wp2
            go_ret
            exact ⟨ret1 HE2.out.symm, hBd⟩
          · have HE2 : Hid (T.getD j 0 = U.getD j 0) := he
            rw [he] at hb'
            clear he
            generalize hy : U.getD j 0 = y at *
            have HY : Hid (U.getD j 0 = y) := hy
            clear hy
            go_wp2
            go_region
            go_wp2
            go_region
            go_wp2
            go_roundw
            case rel =>
              refine ⟨j + 1, by omega, by go_num, fun a ha => ?_, hBdd⟩
              rcases Nat.lt_succ_iff_lt_or_eq.1 ha with ha | rfl
              · exact hall.out a ha
              · rw [HY.out]; exact HE2.out
            case measure => simp [intOf]; omega
          · have HE2 : Hid (r = 1) := HE.out.trans (lex_more T U j (by rw [HT.out]; exact hlt) (by rw [HU.out]; exact hlt) hall.out he)
            generalize hx : T.getD j 0 = x at *
            generalize hy : U.getD j 0 = y at *
            clear hx hy
            go_wp2
            go_region
            go_wp2
            go_region
            go_wp2
            go_ret
            exact ⟨ret1 HE2.out.symm, hBdd⟩
        · obtain rfl : j = n := by omega
          have HE2 : Hid (r = 0) := HE.out.trans (lex_none T U j HT.out HU.out hall.out)
          go_wp2
          go_ret
          exact ⟨ret1 HE2.out.symm, hB⟩
/-- 'append(t, x, y)' onto a row of the call's own -/
theorem wp_push2 {ops : Array Oper} {rest : List Oper} {o : Oper} {a : Act} {Q : Exit → Act → World → Prop} (W0 Wc : World) (B base : Nat) (hgd : o.guard = none) (s x : Operand)
    (ho : o.op = .call { callee := .builtin .append, args := #[s, x], argTypes := #[22, 22] }) (v : Value) (k : Nat) (O : List Int) (hs : a.eval s = v) (g : Nat) (d e : Int) (hx : a.eval x = .slice (some ⟨g, 0, none⟩) 2 2)
    (hown : Wc.ownsRow base 3 1 v k (cellsZ O)) (hcell : Wc.cell? ⟨g, 0, none⟩ = some (.int .i64 d)) (hcell1 : Wc.cell? ⟨g, 1, none⟩ = some (.int .i64 e)) (hbase : base ≤ Wc.heap.size) (hk : (k + 2) * 8 ≤ 140737488355328) (hbel : Below B W0 Wc) (hB : B ≤ base)
    (h : ∀ g' c' w', w'.ownsRow base 3 1 (.slice (some ⟨g', 0, none⟩) (k + 2) c') (k + 2) (cellsZ (O ++ [d, e])) → Below B W0 w' → wpList Try.prog ops Q rest (a.put o.dst (.slice (some ⟨g', 0, none⟩) (k + 2) c')) w') : wpList Try.prog ops Q (o :: rest) a Wc := by
  obtain ⟨i0, hi, hz0, hz1, hz2⟩ := info_parts Try.infoInt
  refine wpList_append_lies Wc hgd s x 22 ho base 3 i0 (.int .i64 0) 1 8 Try.underlying22 hi hz0 hz1 hz2 rfl (by decide) v k _ hs hown ⟨g, 0, none⟩ 2 2 [.int .i64 d, .int .i64 e] hx rfl ?_ ?_ (by decide) (by unfold maxLen; omega) (by omega) hbase _ rfl ?_
  · intro j u hj
    match j, hj with
    | 0, hj => simp at hj; subst hj; simpa [Addr.add] using hcell
    | 1, hj => simp at hj; subst hj; simpa [Addr.add] using hcell1
  · intro u hu
    simp only [List.mem_cons, List.not_mem_nil, or_false] at hu
    rcases hu with rfl | rfl <;> rfl
  · intro g' cap w' h1 h2 _ _
    refine h g' cap w' (by simpa [cellsZ] using h1) (hbel.grown h2 (by omega) ?_)
    intro q hq
    have := hown.lt q hq
    omega
theorem rdz_of_owns_cap {w : World} {base : Nat} {t : TypeId} {a : Option Addr} {k c : Nat} {zs : List Int} (h : w.ownsRow base t 1 (.slice a k c) k (cellsZ zs)) : k ≤ c ∧ c ≤ 9223372036854775807 := by
  obtain ⟨ro, cr, hv, hR⟩ := rdz_of_owns h
  obtain ⟨rfl, _, rfl⟩ := Value.slice.inj hv
  exact ⟨hR.lecap, hR.lemax⟩
theorem trim_le (zs : List Int) : (trim zs).length ≤ zs.length := by rw [trim_length]; exact trimN_le _ _
theorem cell_new2 (W : World) (u v : Value) (t : TypeId) : (W.alloc (.cells #[u, v] t)).cell? ⟨W.heap.size, 0, none⟩ = some u ∧ (W.alloc (.cells #[u, v] t)).cell? ⟨W.heap.size, 1, none⟩ = some v := ⟨by simp, by simp⟩
theorem fives_get (n : Nat) : (List.replicate n (-5 : Int) ++ [-6, -6]).getD n 0 = -6 := by
  rw [List.getD_eq_getElem?_getD, List.getElem?_append_right (by simp)]; simp
set_option maxHeartbeats 4000000 in
theorem trims_walk (ao bo : Option Addr) (n m c1 c2 : Nat) (T U : List Int) (w : World) (hA : RdZ w ao n c1 T) (hU : RdZ w bo m c2 U) (hm1 : n * 8 ≤ 140737488351232) (hm2 : m * 8 ≤ 140737488351232) :
    Calls Try.prog 6 #[.slice ao n c1, .slice bo m c2] w fun e w' => e = .returned (.bool true) ∧ Below w.heap.size w w' := by
  obtain ⟨r, hr⟩ : ∃ r, r = cmp T U := ⟨_, rfl⟩
  have HR : Hid (r = cmp T U) := hr
  have HN : Hid (-r = cmp U T) := by show _ = _; rw [cmp_neg, ← HR.out]
  obtain ⟨hr1, hr2⟩ : -1 ≤ r ∧ r ≤ 1 := by rw [hr]; exact cmp_bd T U
  clear hr
  have hcm := hA.lecap
  have hcx := hA.lemax
  have htl : (trim T).length ≤ n := by have := trim_le T; rw [hA.eqlen] at this; exact this
  obtain ⟨L, hL⟩ : ∃ L, trim T = L := ⟨_, rfl⟩
  obtain ⟨q, hq⟩ : ∃ q, L.length = q := ⟨_, rfl⟩
  have HL : Hid (trim T = L) := hL
  have HQ : Hid (L.length = q) := hq
  rw [hL, hq] at htl
  have TR : Hid (∀ base a c w, w.ownsRow base 3 1 (.slice a n c) n (cellsZ T) → Calls Try.prog 25 #[.slice a n c] w fun e w' => ∃ g, e = .returned (.slice (some ⟨g, 0, none⟩) q q) ∧ w'.ownsRow w.heap.size 3 1 (.slice (some ⟨g, 0, none⟩) q q) q (cellsZ L) ∧ Below w.heap.size w w') := fun base a c w h => by
    have := trim_own base a n c T w h hm1
    rwa [HL.out, HQ.out] at this
  have RT : Hid (∀ a c w, RdZ w a n c T → Calls Try.prog 26 #[.slice a n c] w fun e w' => ∃ a c, e = .returned (.slice a q c) ∧ RdZ w' a q c L ∧ Below w.heap.size w w') := fun a c w h => by
    have := rtrim_at a n c T w h hm1
    rwa [HL.out, HQ.out] at this
  clear hL hq
  go_enter Try.func6, Try.ntmps6
  go_wp2_with (first
    | (at_builtin; refine wp_copyZ w w rfl (.tmp 11) (.tmp 12) rfl (Below.refl _ _) rfl ao n c1 T rfl hA hm1 ?_; intro a1 d1 w1 hR1 hB1 hO1; have hU1 := hU.below (Nat.le_refl _) hB1)
    | (at_builtin; refine wp_copyZ w1 w1 rfl (.tmp 14) (.tmp 15) rfl (Below.refl _ _) rfl bo m c2 U rfl hU1 hm2 ?_; intro a2 d2 w2 hR2 hB2 hO2; have hW2 := hB1.trans (hB2.mono hB1.size); have hO12 := owns_below hO1 hB2; have hM2 := hR1.below (Nat.le_refl _) hB2)
    | (go_at_call 25; refine (TR.out _ _ _ _ hO12).mono ?_; rintro e w3 ⟨g, rfl, hT3, hB3⟩; have hC3 := hB3)
    | (go_at_call 13; refine (fixed_at _).mono ?_; rintro e w4 ⟨rfl, hB4⟩; have hT4 := owns_below hT3 hB4; have hC4 := hC3.trans (hB4.mono hC3.size); have hA4 := hA.below (Nat.le_refl _) (hW2.trans (hC4.mono hW2.size)))
    | (go_at_call 26; refine (RT.out _ _ _ hA4).mono ?_; rintro e w5 ⟨a5, d5, rfl, hR5, hB5⟩; have hT5 := owns_below hT4 hB5; have hC5 := hC4.trans (hB5.mono hC4.size))
    | (go_at_call 15; refine (same_at _ _ _ _ _ _ L L true _ (rdz_of_owns' hT5) hR5 ⟨fun _ => rfl, fun _ => rfl⟩).mono ?_; rintro e w6 ⟨rfl, hB6⟩; have hT6 := owns_below hT5 hB6; have hC6 := hC5.trans (hB6.mono hC5.size); have hW6 := hW2.trans (hC6.mono hW2.size); have hA6 := hA.below (Nat.le_refl _) hW6; have hU6 := hU.below (Nat.le_refl _) hW6; have hM6 := hM2.below (Nat.le_refl _) hC6; have hX6 := hR2.below (Nat.le_refl _) hC6)
    | (go_at_call 27; have _t := k2; refine (words_at _ _ _ _ _ _ T U r _ hM7 hX7 HR.out).mono ?_; rintro e w' ⟨rfl, rfl⟩; have k3 : Hid True := trivial)
    | (go_at_call 27; have _t := hT7; refine (words_at _ _ _ _ _ _ U T (-r) _ hX7 hM7 HN.out).mono ?_; rintro e w' ⟨rfl, rfl⟩; have k2 : Hid True := trivial)
    | (go_at_call 27; refine (words_at _ _ _ _ _ _ T U r _ hM6 hX6 HR.out).mono ?_; rintro e w' ⟨rfl, rfl⟩; have k1 : Hid True := trivial)
    | (go_at_call 28; refine (rcompare_at _ _ _ _ _ _ T U r _ hA6 hU6 HR.out).mono ?_; rintro e w7 ⟨rfl, hB7⟩; have hT7 := owns_below hT6 hB7; have hC7 := hC6.trans (hB7.mono hC6.size); have hM7 := hM6.below (Nat.le_refl _) hB7; have hX7 := hX6.below (Nat.le_refl _) hB7))
  have hgb : w2.heap.size ≤ g := (hT7.lt g rfl).1
  go_loopw [51] (fun i ws => ∃ k : Nat, k ≤ q ∧ i = .int .i64 k ∧ ws.ownsRow w2.heap.size 3 1 (.slice (some ⟨g, 0, none⟩) q q) q (cellsZ (front (List.replicate q (-5)) L k)) ∧ Below w2.heap.size w2 ws) (fun i _ => q - (intOf i).toNat)
  case atStart => exact ⟨0, Nat.zero_le _, rfl, by rw [front_zero]; exact hT7, hC7⟩
  case round =>
    clear hT7 hC7 hM7 hX7 hM6 hX6 hA6 hU6 hT6 hT5 hT4 hT3 hR5 hA4 TR RT
    obtain ⟨k, hk, rfl, hO, hB⟩ := hrel
    by_cases hlt : k < q
    · have hoc := ownsZ_cell hO k hlt
      have hof := hO.frozenAt k
      have hO2 := (hO.stored k (.int .i64 (-5))).1
      have e5 : (List.replicate q (-5 : Int)).getD k 0 = -5 := by rw [getD_of (by simpa using hlt)]; simp
      have hfs := front_set (List.replicate q (-5)) L k (by rw [List.length_replicate, HQ.out]) (by simpa using hlt)
      rw [e5] at hfs
      rw [cells_set, hfs] at hO2
      have HO : Hid _ := hO2
      have hB2 := hB.setCell (p := ⟨g, k, none⟩) hgb (.int .i64 (-5))
      clear hO2 hfs e5
      go_wp2
      go_roundw
      case rel =>
        go_light
        exact ⟨k + 1, by omega, by go_num, HO.out, hB2⟩
      case measure => simp [intOf]; omega
    · obtain rfl : k = q := by omega
      rw [front_all _ _ k (by simp) HQ.out] at hO
      go_wp2_with (first
        | (at_builtin; refine wp_push2 w2 _ w2.heap.size w2.heap.size rfl (.tmp 58) (.tmp 59) rfl _ k (List.replicate k (-5)) rfl wr.heap.size (-6) (-6) rfl (hO.alloc _) (cell_new2 _ _ _ _).1 (cell_new2 _ _ _ _).2 (size_new1 hB.size _) (by omega) (hB.alloc hB.size _) (Nat.le_refl _) ?_; intro g8 d8 w8 hO8 hB8; have hW8 := hW2.trans (hB8.mono hW2.size); have hA8 := hA.below (Nat.le_refl _) hW8; have hY8 := hU.below (Nat.le_refl _) hW8; have hM8 := hM2.below (Nat.le_refl _) hB8; have hX8 := hR2.below (Nat.le_refl _) hB8; have hc8 := ownsZ_cell hO8 k (by omega); rw [fives_get] at hc8; have hgl8 : (⟨g8, k, none⟩ : Addr).block < w8.heap.size := (hO8.lt g8 rfl).2; have hd8 : k + 2 ≤ d8 := (rdz_of_owns_cap hO8).1; have hd9 : d8 ≤ 9223372036854775807 := (rdz_of_owns_cap hO8).2)
        | (go_at_call 15; have _t := hX9; refine (same_at _ _ _ _ _ _ U U true _ hX9 hY9 ⟨fun _ => rfl, fun _ => rfl⟩).mono ?_; rintro e wz ⟨rfl, hBz⟩; have hWz := hWy.trans (hBz.mono hWy.size); have hcz := (hBz.cell hgl9).trans hcy)
        | (go_at_call 15; have _t := hO8; refine (same_at _ _ _ _ _ _ T T true _ hM8 hA8 ⟨fun _ => rfl, fun _ => rfl⟩).mono ?_; rintro e wy ⟨rfl, hBy⟩; have hWy := hW8.trans (hBy.mono hW8.size); have hX9 := hX8.below (Nat.le_refl _) hBy; have hY9 := hY8.below (Nat.le_refl _) hBy; have hcy := (hBy.cell hgl8).trans hc8; have hgl9 := Nat.lt_of_lt_of_le hgl8 hBy.size))
      go_ret
      exact ⟨by simp, hWz⟩
end Go.Proofs.Ytkanjgphmafjbaa.Wo
