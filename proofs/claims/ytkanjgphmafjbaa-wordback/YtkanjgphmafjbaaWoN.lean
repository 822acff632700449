/- WordBack: the walk. -/
import Derived.Test.YtkanjgphmafjbaaWoJ
import Derived.Test.YtkanjgphmafjbaaWoL
namespace Go.Proofs.Ytkanjgphmafjbaa.Wo
open Go.RowKit
set_option linter.unusedVariables false
attribute [local go_sem ↓] Go.wp_at_zero Go.wp_at_succ

theorem enc_letters (vs : List Int) (n : Nat) : Letters (enc vs n) vs.length := by
  intro a ha
  obtain ⟨i, _, rfl⟩ := List.mem_map.1 ha
  exact lt_bd vs i
theorem enc_ne (vs : List Int) (n : Nat) (h : 0 < n) : enc vs n ≠ [] := by
  intro e
  have := congrArg List.length e
  rw [enc_length] at this
  simp at this
  omega
theorem back_at (vs : List Int) (len M : Nat) (hl : vs.length = len) (h6 : len ≤ 6) (hM : lg vs ≤ M) (hM' : M ≤ 64) (w : World) (ao : Option Addr) (cap : Nat) (h : RdZ w ao M cap (enc vs M)) :
    Gives 23 #[.slice ao M cap, .int .i64 len] vs len 0 w := by
  have hp := lg_pos vs
  subst hl
  refine decode_at ao M cap (enc vs M) (vs.length : Int) 0 vs vs.length w h ⟨fun h => by omega, fun _ h => absurd h (enc_ne vs M (by omega)), fun _ h => by rw [enc_length] at h; omega, fun _ _ _ h => absurd (enc_letters vs M) (by rw [Int.toNat_natCast] at h; exact h), fun _ _ _ _ => rfl⟩ (fun _ => ⟨?_, by rw [Int.toNat_natCast]⟩) (fun h => absurd rfl h)
  rw [Int.toNat_natCast, dec_enc vs M hM]
theorem back_trim (vs : List Int) (M : Nat) (hM : lg vs ≤ M) (hM' : M ≤ 64) (base : Nat) (a : Option Addr) (c : Nat) (w : World) (h : w.ownsRow base 3 1 (.slice a M c) M (cellsZ (enc vs M))) :
    Calls Try.prog 25 #[.slice a M c] w fun e w' => ∃ g, e = .returned (.slice (some ⟨g, 0, none⟩) (lg vs) (lg vs)) ∧ w'.ownsRow w.heap.size 3 1 (.slice (some ⟨g, 0, none⟩) (lg vs) (lg vs)) (lg vs) (cellsZ (enc vs (lg vs))) ∧ Below w.heap.size w w' := by
  have := trim_own base a M c (enc vs M) w h (by omega)
  rwa [trim_enc vs M hM, enc_length] at this
/-- at a step of a region that draws its order: 'append([]int{}, x...)', x not empty -/
theorem step_copyZ {ops : Array Oper} {o : Oper} {a : Act} {K : Act → World → Prop} {Q : Exit → Act → World → Prop} {E : Prop} (W0 Wc : World) (B base : Nat) (hgd : o.guard = none) (s x : Operand)
    (ho : o.op = .call { callee := .builtin .append, args := #[s, x], argTypes := #[22, 22] }) (g0 : Nat) (hs : a.eval s = .slice (some ⟨g0, 0, none⟩) 0 0) (b off m c : Nat) (zs : List Int) (hx : a.eval x = .slice (some ⟨b, off, none⟩) m c)
    (hown : Wc.ownsRow base 3 1 (.slice (some ⟨g0, 0, none⟩) 0 0) 0 (cellsZ [])) (hR : RdZ Wc (some ⟨b, off, none⟩) m c zs) (h0 : 0 < m) (hm : m * 8 ≤ 140737488351232) (hbase : base ≤ Wc.heap.size) (hbel : Below B W0 Wc) (hB : B ≤ base)
    (h : ∀ g' c' w', w'.ownsRow base 3 1 (.slice (some ⟨g', 0, none⟩) m c') m (cellsZ zs) → Below B W0 w' → (∀ p : Addr, p.block < Wc.heap.size → p.block ≠ g0 → w'.cell? p = Wc.cell? p) → (g0 = g' ∨ g' = Wc.heap.size) → K (a.put o.dst (.slice (some ⟨g', 0, none⟩) m c')) w') : if Region.wanted o (yielded ops a.tmps) = true then Oper.wp Try.prog o a Wc K Q else E := by
  obtain ⟨i0, hi, hz0, hz1, hz2⟩ := info_parts Try.infoInt
  refine step_append_lies Wc hgd s x 22 ho base 3 i0 (.int .i64 0) 1 8 Try.underlying22 hi hz0 hz1 hz2 rfl (by decide) _ 0 _ hs hown ⟨b, off, none⟩ m c (cellsZ zs) hx (by simp [hR.eqlen]) (cells_arg hR) (ints_oneCell _ _) h0 (by unfold maxLen; omega) (by omega) hbase _ rfl ?_
  intro g' cap w' h1 h2 h3 _
  rw [Nat.zero_add] at h1 ⊢
  refine h g' cap w' (by simpa [cellsZ] using h1) (hbel.grown h2 (by omega) ?_) (fun p hp hne => h2.cell_far p hp (fun e => hne (by simpa [Value.ownBlock] using e))) (by simpa [Value.ownBlock] using h3)
  intro q hq
  have := hown.lt q hq
  omega
/-- 'append([]int{}, x...)', x not empty, behind a guard that lets it run -/
theorem wp_copyG {ops : Array Oper} {rest : List Oper} {o : Oper} {a : Act} {Q : Exit → Act → World → Prop} (W : World) (hw : Region.wanted o (yielded ops a.tmps) = true) (s x : Operand)
    (ho : o.op = .call { callee := .builtin .append, args := #[s, x], argTypes := #[22, 22] })
    (hs : a.eval s = .slice (some ⟨W.heap.size, 0, none⟩) 0 0) (b off m c : Nat) (zs : List Int) (hx : a.eval x = .slice (some ⟨b, off, none⟩) m c) (hR : RdZ W (some ⟨b, off, none⟩) m c zs) (h0 : 0 < m) (hm : m * 8 ≤ 140737488351232)
    (h : ∀ a' c' w', RdZ w' a' m c' zs → Below W.heap.size W w' → w'.ownsRow W.heap.size 3 1 (.slice a' m c') m (cellsZ zs) → wpList Try.prog ops Q rest (a.put o.dst (.slice a' m c')) w') : wpList Try.prog ops Q (o :: rest) a (W.alloc (.cells #[] 3)) := by
  obtain ⟨i0, hi, hz0, hz1, hz2⟩ := info_parts Try.infoInt
  have hown := World.ownsRow_made (base := W.heap.size) (e := 3) (size := 1) W #[] 0 (Nat.le_refl _) (Nat.zero_le _) (by simp)
  have hN : Below W.heap.size W (W.alloc (.cells #[] 3)) := (Below.refl _ _).alloc (Nat.le_refl _) _
  refine wpList_step fun K hK => ?_
  rw [if_pos hw]
  refine wp_append_lies _ s x 22 ho W.heap.size 3 i0 (.int .i64 0) 1 8 Try.underlying22 hi hz0 hz1 hz2 rfl (by decide) _ 0 [] hs hown ⟨b, off, none⟩ m c (cellsZ zs) hx (by simp [hR.eqlen]) (cells_arg (hR.below (Nat.le_refl _) hN)) (ints_oneCell _ _) h0 (by unfold maxLen; omega) (by omega) (by rw [World.size_alloc]; omega) _ rfl ?_
  intro g' cap w' h1 h2 _ _
  rw [List.nil_append, Nat.zero_add] at h1
  rw [Nat.zero_add]
  obtain ⟨ro, cr, hv, hR'⟩ := rdz_of_owns h1
  obtain ⟨rfl, _, rfl⟩ := Value.slice.inj hv
  refine hK _ _ (h _ _ w' hR' (hN.grown h2 (by rw [World.size_alloc]; omega) ?_) h1)
  intro k hk
  simp only [Value.ownBlock, Option.some.injEq] at hk
  omega
set_option maxRecDepth 100000 in
set_option maxHeartbeats 4000000 in
theorem back_no (ao : Option Addr) (len cap : Nat) (vs : List Int) (x : Int) (w : World) (h : RdZ w ao len cap vs) (hv : In64 vs) (hm : len * 8 ≤ 140737488351232) (h6 : 6 < len) :
    Calls Try.prog 7 #[.slice ao len cap, .int .i64 x] w fun e w' => e = .returned (.bool true) ∧ Below w.heap.size w w' := by
  have hcap := h.lecap
  have hmax := h.lemax
  go_enter Try.func7, Try.ntmps7
  go_wp2_with (first
    | (go_at_call 13; refine (fixed_at _).mono ?_; rintro e w1 ⟨rfl, hB1⟩; have h1 := h.below (Nat.le_refl _) hB1)
    | (at_builtin; refine wp_copyQ w1 w1 rfl (.tmp 14) (.tmp 15) rfl (Below.refl _ _) rfl ao len cap vs rfl h1 hm ?_; intro a2 d2 w2 hR2 hB2 hO2; have hW2 := hB1.trans (hB2.mono hB1.size))
    | (go_at_call 20; refine (shortest_no _ _ _ vs _ hR2 hv h6).mono ?_; rintro e w' ⟨rfl, rfl⟩))
  go_ret
  exact ⟨by simp, hW2⟩
theorem rdz_of_owns'' {w : World} {base n c : Nat} {t : TypeId} {a : Option Addr} {zs : List Int} (h : w.ownsRow base t 1 (.slice a n c) n (cellsZ zs)) : RdZ w a n c zs := by
  obtain ⟨ro, cr, hv, hR⟩ := rdz_of_owns h
  obtain ⟨rfl, _, rfl⟩ := Value.slice.inj hv
  exact hR
set_option maxRecDepth 100000 in
set_option maxHeartbeats 2000000 in
theorem back_yes (ao : Option Addr) (len cap : Nat) (vs : List Int) (x : Int) (M Y : Nat) (w : World) (h : RdZ w ao len cap vs) (hv : In64 vs) (h6 : len ≤ 6) (hY : Hid ((IntKind.u64.wrap x).tmod 8 = (Y : Int))) (hY7 : Y ≤ 7) (hM : (64 < lg vs + Y ∧ M = 64) ∨ (lg vs + Y ≤ 64 ∧ M = lg vs + Y)) :
    Calls Try.prog 7 #[.slice ao len cap, .int .i64 x] w fun e w' => e = .returned (.bool true) ∧ Below w.heap.size w w' := by
  have hcap := h.lecap
  have hmax := h.lemax
  have hm : len * 8 ≤ 140737488351232 := by omega
  have HL : Hid (vs.length = len) := h.eqlen
  have hg1 := lg_pos vs
  have hg2 := lg_64 vs hv
  have hM1 : lg vs ≤ M := by omega
  have hM2 : M ≤ 64 := by omega
  have SH : Hid (∀ w ao cap, RdZ w ao len cap vs → Gives 20 #[.slice ao len cap] (enc vs (lg vs)) (lg vs) 0 w) := fun w ao cap h => gives_row (shortest_in ao len cap vs w h hv h6)
  have LO : Hid (∀ w ao cap, RdZ w ao len cap vs → Calls Try.prog 19 #[.slice ao len cap] w fun e w' => e = .returned (.int .i64 (lg vs : Nat)) ∧ w = w') := fun w ao cap h => longest_at ao len cap vs w h hv
  have EN : Hid (∀ w ao cap, RdZ w ao len cap vs → Calls Try.prog 17 #[.slice ao len cap, .int .i64 M] w fun e w' => ∃ g, e = .returned (.tuple #[.slice (some ⟨g, 0, none⟩) M M, .int .i64 0]) ∧ w'.ownsRow w.heap.size 3 1 (.slice (some ⟨g, 0, none⟩) M M) M (cellsZ (enc vs M)) ∧ Below w.heap.size w w') := fun w ao cap h => encode_in ao len cap vs M w h hv h6 hM1 hM2
  have ER : Hid (∀ w ao cap, RdZ w ao len cap vs → Calls Try.prog 17 #[.slice ao len cap, .int .i64 ((lg vs : Int) - 1)] w fun e w' => e = .returned (.tuple #[.slice none 0 0, .int .i64 2]) ∧ w = w') := fun w ao cap h => encode_range ao len cap vs _ w h hv h6 (.inl (by omega))
  have DE : Hid (∀ w ao cap, RdZ w ao M cap (enc vs M) → Gives 23 #[.slice ao M cap, .int .i64 len] vs len 0 w) := fun w ao cap h => back_at vs len M HL.out h6 hM1 hM2 w ao cap h
  have TR : Hid (∀ base a c w, w.ownsRow base 3 1 (.slice a M c) M (cellsZ (enc vs M)) → Calls Try.prog 25 #[.slice a M c] w fun e w' => ∃ g, e = .returned (.slice (some ⟨g, 0, none⟩) (lg vs) (lg vs)) ∧ w'.ownsRow w.heap.size 3 1 (.slice (some ⟨g, 0, none⟩) (lg vs) (lg vs)) (lg vs) (cellsZ (enc vs (lg vs))) ∧ Below w.heap.size w w') := fun base a c w h => back_trim vs M hM1 hM2 base a c w h
  have D2 : M < 64 → Hid (∀ w ao cap, RdZ w ao (M + 1) cap (enc vs M ++ [lt vs (M - 1)]) → Gives 23 #[.slice ao (M + 1) cap, .int .i64 len] vs len 0 w) := fun hlt w ao cap h => by
    obtain ⟨q, rfl⟩ : ∃ q, M = q + 1 := ⟨M - 1, by omega⟩
    rw [Nat.add_sub_cancel, ← (lt_last vs q (by omega)).2 hM1, ← enc_snoc] at h
    exact back_at vs len (q + 1 + 1) HL.out h6 (by omega) (by omega) w ao cap h
  have HX : Hid ((enc vs M).getD (M - 1) 0 = lt vs (M - 1)) := enc_get vs M (M - 1) (by omega)
  have hexp : min 64 (wrap64 ((lg vs : Int) + wrap64 ((IntKind.u64.wrap x).tmod 8))) = (M : Int) := by
    rw [hY.out]; unfold wrap64; omega
  generalize hN : lg vs = N at *
  generalize hE : enc vs N = E at *
  generalize hF : enc vs M = F at *
  generalize hZ : lt vs (M - 1) = Z at *
  clear hN hE hF hZ
  have hN0 : ((N : Int) != (N : Int)) = false := by simp
  clear hM hY
  by_cases h64 : M = 64
  · have he : ((M : Int) == 64) = true := by simp; omega
    clear D2 HX h64
    go_enter Try.func7, Try.ntmps7
    go_wp2_with (first
      | (go_at_call 13; refine (fixed_at _).mono ?_; rintro e w1 ⟨rfl, hB1⟩; have h1 := h.below (Nat.le_refl _) hB1)
      | (at_builtin; refine wp_copyQ w1 w1 rfl (.tmp 14) (.tmp 15) rfl (Below.refl _ _) rfl ao len cap vs rfl h1 hm ?_; intro a2 d2 w2 hR2 hB2 hO2; have hW2 := hB1.trans (hB2.mono hB1.size))
      | (go_at_call 20; refine (SH.out _ _ _ hR2).mono ?_; rintro e w3 ⟨a3, c3, rfl, hS3, hB3⟩; have hW3 := hW2.trans (hB3.mono hW2.size); have h3 := h.below (Nat.le_refl _) hW3)
      | (at_builtin; refine wp_copyQ w3 w3 rfl (.tmp 30) (.tmp 31) rfl (Below.refl _ _) rfl ao len cap vs rfl h3 hm ?_; intro a4 d4 w4 hR4 hB4 hO4; have hW4 := hW3.trans (hB4.mono hW3.size); have hS4 := hS3.below (Nat.le_refl _) hB4; have h4 := h.below (Nat.le_refl _) hW4)
      | (go_at_call 19; refine (LO.out _ _ _ hR4).mono ?_; rintro e w' ⟨rfl, rfl⟩)
      | (at_builtin; refine wp_copyQ w4 w4 rfl (.tmp 51) (.tmp 52) rfl (Below.refl _ _) rfl ao len cap vs rfl h4 hm ?_; intro a5 d5 w5 hR5 hB5 hO5; have hW5 := hW4.trans (hB5.mono hW4.size); have hS5 := hS4.below (Nat.le_refl _) hB5; have h5 := h.below (Nat.le_refl _) hW5)
      | (go_at_call 17; have _t := hR6; refine (EN.out _ _ _ hR6).mono ?_; rintro e w7 ⟨g7, rfl, hO7, hB7⟩; have hW7 := hW6.trans (hB7.mono hW6.size); have hS7 := hS6.below (Nat.le_refl _) hB7; have hF7 := rdz_of_owns' hO7)
      | (go_at_call 17; refine (ER.out _ _ _ hR5).mono ?_; rintro e w' ⟨rfl, rfl⟩)
      | (at_builtin; refine wp_copyQ w5 w5 rfl (.tmp 69) (.tmp 70) rfl (Below.refl _ _) rfl ao len cap vs rfl h5 hm ?_; intro a6 d6 w6 hR6 hB6 hO6; have hW6 := hW5.trans (hB6.mono hW5.size); have hS6 := hS5.below (Nat.le_refl _) hB6)
      | (at_builtin; refine wp_copyG w7 (by rfl) (.tmp 85) (.tmp 86) rfl rfl g7 0 M M F rfl hF7 (by omega) (by omega) ?_; intro a8 d8 w8 hR8 hB8 hO8; have hW8 := hW7.trans (hB8.mono hW7.size); have hS8 := hS7.below (Nat.le_refl _) hB8; have hF8 := hF7.below (Nat.le_refl _) hB8)
      | (go_at_call 25; refine (TR.out _ _ _ _ hO8).mono ?_; rintro e w9 ⟨g9, rfl, hO9, hB9⟩; have hW9 := hW8.trans (hB9.mono hW8.size); have hS9 := hS8.below (Nat.le_refl _) hB9; have hF9 := hF8.below (Nat.le_refl _) hB9)
      | (go_at_call 15; refine (same_at _ _ _ _ _ _ E E true _ (rdz_of_owns' hO9) hS9 ⟨fun _ => rfl, fun _ => rfl⟩).mono ?_; rintro e wa ⟨rfl, hBa⟩; have hWa := hW9.trans (hBa.mono hW9.size); have hFa := hF9.below (Nat.le_refl _) hBa)
      | (at_builtin; refine wp_copyZ wa wa rfl (.tmp 94) (.tmp 95) rfl (Below.refl _ _) rfl (some ⟨g7, 0, none⟩) M M F rfl hFa (by omega) ?_; intro ab db wb hRb hBb hOb; have hWb := hWa.trans (hBb.mono hWa.size); have hFb := hFa.below (Nat.le_refl _) hBb)
      | (go_at_call 23; refine (DE.out _ _ _ hRb).mono ?_; rintro e wc ⟨ac, cc, rfl, hVc, hBc⟩; have hWc := hWb.trans (hBc.mono hWb.size); have hc := h.below (Nat.le_refl _) hWc; have hFc := hFb.below (Nat.le_refl _) hBc)
      | (go_at_call 22; refine (tuples_at _ _ _ _ _ _ vs vs true _ hVc hc ⟨fun _ => rfl, fun _ => rfl⟩).mono ?_; rintro e wd ⟨rfl, hBd⟩; have hWd := hWc.trans (hBd.mono hWc.size); have hFd := hFc.below (Nat.le_refl _) hBd))
    go_ret
    exact ⟨by simp, hWd⟩
  · have he : ((M : Int) == 64) = false := by simp; omega
    have D3 := D2 (by omega)
    clear D2 h64
    go_enter Try.func7, Try.ntmps7
    go_wp2_with (first
      | (go_at_call 13; refine (fixed_at _).mono ?_; rintro e w1 ⟨rfl, hB1⟩; have h1 := h.below (Nat.le_refl _) hB1)
      | (at_builtin; refine wp_copyQ w1 w1 rfl (.tmp 14) (.tmp 15) rfl (Below.refl _ _) rfl ao len cap vs rfl h1 hm ?_; intro a2 d2 w2 hR2 hB2 hO2; have hW2 := hB1.trans (hB2.mono hB1.size))
      | (go_at_call 20; refine (SH.out _ _ _ hR2).mono ?_; rintro e w3 ⟨a3, c3, rfl, hS3, hB3⟩; have hW3 := hW2.trans (hB3.mono hW2.size); have h3 := h.below (Nat.le_refl _) hW3)
      | (at_builtin; refine wp_copyQ w3 w3 rfl (.tmp 30) (.tmp 31) rfl (Below.refl _ _) rfl ao len cap vs rfl h3 hm ?_; intro a4 d4 w4 hR4 hB4 hO4; have hW4 := hW3.trans (hB4.mono hW3.size); have hS4 := hS3.below (Nat.le_refl _) hB4; have h4 := h.below (Nat.le_refl _) hW4)
      | (go_at_call 19; refine (LO.out _ _ _ hR4).mono ?_; rintro e w' ⟨rfl, rfl⟩)
      | (at_builtin; refine wp_copyQ w4 w4 rfl (.tmp 51) (.tmp 52) rfl (Below.refl _ _) rfl ao len cap vs rfl h4 hm ?_; intro a5 d5 w5 hR5 hB5 hO5; have hW5 := hW4.trans (hB5.mono hW4.size); have hS5 := hS4.below (Nat.le_refl _) hB5; have h5 := h.below (Nat.le_refl _) hW5)
      | (go_at_call 17; have _t := hR6; refine (EN.out _ _ _ hR6).mono ?_; rintro e w7 ⟨g7, rfl, hO7, hB7⟩; have hW7 := hW6.trans (hB7.mono hW6.size); have hS7 := hS6.below (Nat.le_refl _) hB7; have hF7 := rdz_of_owns' hO7)
      | (go_at_call 17; refine (ER.out _ _ _ hR5).mono ?_; rintro e w' ⟨rfl, rfl⟩)
      | (at_builtin; refine wp_copyQ w5 w5 rfl (.tmp 69) (.tmp 70) rfl (Below.refl _ _) rfl ao len cap vs rfl h5 hm ?_; intro a6 d6 w6 hR6 hB6 hO6; have hW6 := hW5.trans (hB6.mono hW5.size); have hS6 := hS5.below (Nat.le_refl _) hB6)
      | (at_builtin; refine wp_copyG w7 (by rfl) (.tmp 85) (.tmp 86) rfl rfl g7 0 M M F rfl hF7 (by omega) (by omega) ?_; intro a8 d8 w8 hR8 hB8 hO8; have hW8 := hW7.trans (hB8.mono hW7.size); have hS8 := hS7.below (Nat.le_refl _) hB8; have hF8 := hF7.below (Nat.le_refl _) hB8)
      | (go_at_call 25; refine (TR.out _ _ _ _ hO8).mono ?_; rintro e w9 ⟨g9, rfl, hO9, hB9⟩; have hW9 := hW8.trans (hB9.mono hW8.size); have hS9 := hS8.below (Nat.le_refl _) hB9; have hF9 := hF8.below (Nat.le_refl _) hB9)
      | (go_at_call 15; refine (same_at _ _ _ _ _ _ E E true _ (rdz_of_owns' hO9) hS9 ⟨fun _ => rfl, fun _ => rfl⟩).mono ?_; rintro e wa ⟨rfl, hBa⟩; have hWa := hW9.trans (hBa.mono hW9.size); have hFa := hF9.below (Nat.le_refl _) hBa)
      | (at_builtin; refine wp_copyZ wa wa rfl (.tmp 94) (.tmp 95) rfl (Below.refl _ _) rfl (some ⟨g7, 0, none⟩) M M F rfl hFa (by omega) ?_; intro ab db wb hRb hBb hOb; have hWb := hWa.trans (hBb.mono hWa.size); have hFb := hFa.below (Nat.le_refl _) hBb)
      | (go_at_call 23; refine (DE.out _ _ _ hRb).mono ?_; rintro e wc ⟨ac, cc, rfl, hVc, hBc⟩; have hWc := hWb.trans (hBc.mono hWb.size); have hc := h.below (Nat.le_refl _) hWc; have hFc := hFb.below (Nat.le_refl _) hBc)
      | (go_at_call 22; refine (tuples_at _ _ _ _ _ _ vs vs true _ hVc hc ⟨fun _ => rfl, fun _ => rfl⟩).mono ?_; rintro e wd ⟨rfl, hBd⟩; have hWd := hWc.trans (hBd.mono hWc.size); have hFd := hFc.below (Nat.le_refl _) hBd))
    have hz : wd.cell? ⟨g7, M - 1, none⟩ = some (.int .i64 Z) := by
      obtain ⟨b', off', e', hc'⟩ := hFd.cell (M - 1) (by omega)
      obtain ⟨rfl, rfl⟩ : g7 = b' ∧ 0 = off' := by simpa using e'
      rw [HX.out, Nat.zero_add] at hc'
      exact hc'
    have hl7 : (⟨g7, M - 1, none⟩ : Addr).block < wd.heap.size := World.block_lt_of_cell? _ _ hz
    have i0 : (0 : Int) ≤ (M : Int) - 1 := by omega
    have i2 : (M : Int) - 1 < (M : Int) := by omega
    have i1 : ((M : Int) - 1).toNat = M - 1 := by omega
    have i3 : IntKind.i64.wrap ((M : Int) - 1) = (M : Int) - 1 := by rw [IntKind.wrap_i64]; omega
    have hd := h.below (Nat.le_refl _) hWd
    have hN1 : Below wd.heap.size wd (wd.alloc (.cells #[] 3)) := (Below.refl _ _).alloc (Nat.le_refl _) _
    have hN2 : Below wd.heap.size wd ((wd.alloc (.cells #[] 3)).alloc (.cells #[.int .i64 Z] 3)) := hN1.alloc hN1.size _
    have hN3 : Below wd.heap.size wd (wd.alloc (.cells #[.int .i64 Z] 3)) := (Below.refl _ _).alloc (Nat.le_refl _) _
    have hN4 : Below wd.heap.size wd ((wd.alloc (.cells #[.int .i64 Z] 3)).alloc (.cells #[] 3)) := hN3.alloc hN3.size _
    have hM1' : World.ownsRow (wd.alloc (.cells #[] 3)) wd.heap.size 3 1 (.slice (some ⟨wd.heap.size, 0, none⟩) 0 0) 0 (cellsZ []) := World.ownsRow_made wd #[] 0 (Nat.le_refl _) (Nat.zero_le _) (by simp)
    have hM3' : World.ownsRow ((wd.alloc (.cells #[.int .i64 Z] 3)).alloc (.cells #[] 3)) wd.heap.size 3 1 (.slice (some ⟨wd.heap.size + 1, 0, none⟩) 0 0) 0 (cellsZ []) := by
      have := World.ownsRow_made (base := wd.heap.size) (e := 3) (size := 1) (wd.alloc (.cells #[.int .i64 Z] 3)) #[] 0 (by simp) (Nat.zero_le _) (by simp)
      rwa [World.size_alloc] at this
    go_region_held_law (fun w' => w'.cell? ⟨g7, M - 1, none⟩ = some (.int .i64 Z)) (first | exact (hBh.cell hl7).trans hz | exact (hBe.cell hl7).trans hz | exact hz | exact (hN1.cell hl7).trans hz | exact (hN2.cell hl7).trans hz | exact (hN3.cell hl7).trans hz | exact (hN4.cell hl7).trans hz | exact ((hBe.alloc hBe.size _).cell hl7).trans hz | exact (hBf.cell hl7).trans hz)
      (first
        | (refine step_copyZ wd _ wd.heap.size wd.heap.size (by rfl) (.tmp 113) (.tmp 114) (by rfl) wd.heap.size (by rfl) g7 0 M M F (by rfl) (World.ownsRow.drew hM1') ((hFd.below (Nat.le_refl _) hN1).below (Nat.le_refl _) ((Below.refl _ _).drew)) (by omega) (by omega) (by simp) hN1.drew (Nat.le_refl _) ?_; intro ge ce we hOe hBe hKe hge)
        | (refine step_copyZ wd _ wd.heap.size wd.heap.size (by rfl) (.tmp 113) (.tmp 114) (by rfl) wd.heap.size (by rfl) g7 0 M M F (by rfl) (World.ownsRow.drew (hM1'.alloc (.cells #[.int .i64 Z] 3))) ((hFd.below (Nat.le_refl _) hN2).below (Nat.le_refl _) ((Below.refl _ _).drew)) (by omega) (by omega) (by simp; omega) hN2.drew (Nat.le_refl _) ?_; intro ge ce we hOe hBe hKe hge; have hKc : we.cell? ⟨wd.heap.size + 1, 0, none⟩ = some (.int .i64 Z) := (hKe ⟨wd.heap.size + 1, 0, none⟩ (by simp) (by simp)).trans (by simp))
        | (refine step_copyZ wd _ wd.heap.size wd.heap.size (by rfl) (.tmp 113) (.tmp 114) (by rfl) (wd.heap.size + 1) (by rfl) g7 0 M M F (by rfl) (World.ownsRow.drew hM3') ((hFd.below (Nat.le_refl _) hN4).below (Nat.le_refl _) ((Below.refl _ _).drew)) (by omega) (by omega) (by simp; omega) hN4.drew (Nat.le_refl _) ?_; intro ge ce we hOe hBe hKe hge; have hKc : we.cell? ⟨wd.heap.size, 0, none⟩ = some (.int .i64 Z) := (hKe ⟨wd.heap.size, 0, none⟩ (by simp; omega) (by simp)).trans (by simp))
        | (refine step_pushZ wd we wd.heap.size wd.heap.size (by rfl) (.tmp 115) (.tmp 121) (by rfl) _ M F (by rfl) _ Z (by rfl) hOe hKc hBe.size (by omega) hBe (Nat.le_refl _) ?_; intro gf cf wf hOf hBf)
        | (refine step_pushZ wd _ wd.heap.size wd.heap.size (by rfl) (.tmp 115) (.tmp 121) (by rfl) _ M F (by rfl) we.heap.size Z (by rfl) (hOe.alloc _) (cell_new1 _ _ _) (size_new1 hBe.size _) (by omega) (hBe.alloc hBe.size _) (Nat.le_refl _) ?_; intro gf cf wf hOf hBf)
        | (go_at_call 23; refine (D3.out _ _ _ (rdz_of_owns'' hOf)).mono ?_; rintro e wg ⟨ag, cg, rfl, hVg, hBg⟩; have hBh := hBf.trans (hBg.mono hBf.size))
        | fail)
    all_goals
      have hWh := hWd.trans (hBh.mono hWd.size)
      have hh := h.below (Nat.le_refl _) hWh
      go_wp2_with (go_at_call 22; refine (tuples_at _ _ _ _ _ _ vs vs true _ hVg hh ⟨fun _ => rfl, fun _ => rfl⟩).mono ?_; rintro e wi ⟨rfl, hBi⟩; have hWi := hWh.trans (hBi.mono hWh.size))
      go_ret
      exact ⟨by simp, hWi⟩
theorem back_walk (ao : Option Addr) (len cap : Nat) (vs : List Int) (x : Int) (w : World) (h : RdZ w ao len cap vs) (hm : len * 8 ≤ 140737488351232) (hv : In64 vs) :
    Calls Try.prog 7 #[.slice ao len cap, .int .i64 x] w fun e w' => e = .returned (.bool true) ∧ Below w.heap.size w w' := by
  by_cases h6 : len ≤ 6
  · have h0 : 0 ≤ IntKind.u64.wrap x := by rw [IntKind.wrap_u64]; omega
    have e : (IntKind.u64.wrap x).tmod 8 = IntKind.u64.wrap x % 8 := Int.tmod_eq_emod_of_nonneg h0
    obtain ⟨Y, hY⟩ : ∃ Y : Nat, (IntKind.u64.wrap x).tmod 8 = Y := ⟨(IntKind.u64.wrap x % 8).toNat, by rw [e]; omega⟩
    exact back_yes ao len cap vs x (min 64 (lg vs + Y)) Y w h hv h6 hY (by rw [e] at hY; omega) (by omega)
  · exact back_no ao len cap vs x w h hv hm (by omega)
end Go.Proofs.Ytkanjgphmafjbaa.Wo
