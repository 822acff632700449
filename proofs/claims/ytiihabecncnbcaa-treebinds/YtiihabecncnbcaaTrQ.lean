/- TreeMemory out of what tree answers. -/
import Derived.Test.YtiihabecncnbcaaTrP
namespace Go.Proofs.Ytiihabecncnbcaa.Gl
open Go.RowKit
set_option linter.unusedVariables false

theorem owns_prefixB {w : World} {base g k cap c2 : Nat} {e : TypeId} {xs ys : List Value} (hl : xs.length = k) (h : w.ownsRow base e 1 (.slice (some ⟨g, 0, none⟩) (k + ys.length) cap) (k + ys.length) (xs ++ ys)) (hc : c2 = cap) : w.ownsRow base e 1 (.slice (some ⟨g, 0, none⟩) k c2) k xs := by
  subst hc
  rcases h.2 with ⟨e1, _⟩ | ⟨g', cap', cur, e1, hb, hh, hnc, hcm, hcs, ht⟩
  · cases e1
  · simp only [Value.slice.injEq, Option.some.injEq, Addr.mk.injEq, and_true, true_and] at e1
    obtain ⟨rfl, rfl⟩ := e1
    refine ⟨by omega, .inr ⟨g, c2, cur, rfl, hb, hh, by omega, hcm, hcs, ?_⟩⟩
    have := congrArg (List.take k) ht
    rw [List.take_take, Nat.mul_one, Nat.min_eq_left (by omega)] at this
    rw [Nat.mul_one, this, ← hl]
    exact List.take_left
theorem owns_keepB {w : World} {base n : Nat} {v : Value} {xs : List Value} (h : w.ownsRow base 9 1 v n xs) {w' : World} (hb : ∀ k, v.ownBlock = some k → w'.heap[k]? = w.heap[k]?) : w'.ownsRow base 9 1 v n xs := by
  refine ⟨h.1, ?_⟩
  rcases h.2 with hn | ⟨g, cap, cur, rfl, hbg, hgg, rest⟩
  · exact .inl hn
  · refine .inr ⟨g, cap, cur, rfl, hbg, ?_, rest⟩
    rw [hb g rfl]
    exact hgg
/-- 'append(v, y, y)', the two in a new block: where they lie, and that v reads as it did -/
theorem run_pushB (w : World) (base : Nat) (ty : TypeId) (ro : Option Addr) (k rc : Nat) (zs : List Value) (y y2 : ByteArray) (g0 : Nat) (hown : w.ownsRow base 9 1 (.slice ro k rc) k zs) (hc0 : w.cell? ⟨g0, 0, none⟩ = some (.string y)) (hc1 : w.cell? ⟨g0, 1, none⟩ = some (.string y2)) (hk : (k + 2) * 16 ≤ 140737488355328) (hbase : base ≤ w.heap.size) :
    ∃ g' c' w', (Builtin.append_ #[28, 28] ty #[.slice ro k rc, .slice (some ⟨g0, 0, none⟩) 2 2]).run Try.prog w = .ok (.slice (some ⟨g', 0, none⟩) (k + 2) c') w' ∧ (w'.cell? ⟨g', k, none⟩ = some (.string y) ∧ w'.cell? ⟨g', k + 1, none⟩ = some (.string y2)) ∧ k + 2 ≤ c' ∧ c' ≤ 9223372036854775807
      ∧ w'.ownsRow base 9 1 (.slice ro k rc) k zs ∧ w.grownBy w' (Value.slice ro k rc).ownBlock ∧ ((Value.slice ro k rc).ownBlock = some g' ∨ w.heap.size ≤ g') ∧ g' < w'.heap.size := by
  obtain ⟨i, hi, hz0, hz1, hz2⟩ := info_parts Try.infoStr
  have hxl := hown.1
  have hnews : ∀ j u, ([.string y, .string y2] : List Value)[j]? = some u → w.cell? ((⟨g0, 0, none⟩ : Addr).add j) = some u := by
    intro j u hj
    match j, hj with
    | 0, hj => simp at hj; subst hj; simpa [Addr.add] using hc0
    | 1, hj => simp at hj; subst hj; simpa [Addr.add] using hc1
  have h1 : ∀ u ∈ ([.string y, .string y2] : List Value), u.oneCell' = true := by
    intro u hu; simp only [List.mem_cons, List.not_mem_nil, or_false] at hu; rcases hu with rfl | rfl <;> rfl
  have hlast : ∀ (W : World) (g' c' : Nat), W.ownsRow base 9 1 (.slice (some ⟨g', 0, none⟩) (k + 2) c') (k + 2) (zs ++ [.string y, .string y2]) → W.cell? ⟨g', k, none⟩ = some (.string y) ∧ W.cell? ⟨g', k + 1, none⟩ = some (.string y2) := by
    intro W g' c' hW
    have hl : zs.length = k := by omega
    refine ⟨?_, ?_⟩
    · rw [hW.cellAt k (by omega), List.getElem?_append_right (by omega), hl, Nat.sub_self]; rfl
    · rw [hW.cellAt (k + 1) (by omega), List.getElem?_append_right (by omega), hl, Nat.add_sub_cancel_left]; rfl
  obtain ⟨v', w', hr, h2, h3, h4⟩ := run_append_own (P := Try.prog) w base 28 ty 9 i (.string emp) 1 16 Try.underlying28 hi hz0 hz1 hz2 rfl (by decide) (.slice ro k rc) k zs hown ⟨g0, 0, none⟩ 2 2 [.string y, .string y2] rfl hnews h1 (by unfold maxLen; omega) (by omega) hbase
  rcases hown.2 with ⟨e, rfl⟩ | ⟨g, cap, cur, e, hbg, hg, hnc, hcm, hcs, htake⟩
  · rcases h2.2 with ⟨e2, h0⟩ | ⟨g', c', cur', rfl, hb', hh', hn', hm', _⟩
    · omega
    · have l1 := hlast w' g' c' h2
      simp only [Value.slice.injEq] at e
      obtain ⟨rfl, _, rfl⟩ := e
      refine ⟨g', c', w', hr, l1, hn', hm', ⟨hxl, .inl ⟨rfl, rfl⟩⟩, h3, .inr ?_, World.block_lt_of_cell? _ _ l1.1⟩
      apply Classical.byContradiction
      intro hlt
      have hr' := run_append_nil (P := Try.prog) w 28 ty 9 i (.string emp) Try.underlying28 hi hz0 ⟨g0, 0, none⟩ 2 2 [.string y, .string y2] (by rw [hz1]; rfl) hnews (by omega) (by omega) (by rw [hz2]; omega)
      rw [hr'] at hr
      simp only [Result.ok.injEq, Value.slice.injEq, Option.some.injEq, Addr.mk.injEq, and_true] at hr
      omega
  · simp only [Value.slice.injEq, true_and] at e
    obtain ⟨rfl, rfl⟩ := e
    by_cases hroom : k + 2 ≤ rc
    · have hr' := run_append_room (P := Try.prog) w 28 ty 9 i Try.underlying28 hi g k rc cur hg ⟨g0, 0, none⟩ 2 2 [.string y, .string y2] (by rw [hz1]; rfl) hnews h1 hroom (by rw [hz1, hcs]; simp; omega)
      rw [hr'] at hr
      simp only [Result.ok.injEq] at hr
      obtain ⟨rfl, rfl⟩ := hr
      have l1 := hlast _ g rc h2
      exact ⟨g, rc, _, hr', l1, hroom, hcm, owns_prefixB (ys := [.string y, .string y2]) (by omega) h2 rfl, h3, .inl rfl, World.block_lt_of_cell? _ _ l1.1⟩
    · have hr' := run_append_grow (P := Try.prog) w 28 ty 9 i (.string emp) Try.underlying28 hi hz0 ⟨g, 0, none⟩ k rc zs (by rw [hz1]; exact hxl) (hown.cells rfl) ⟨g0, 0, none⟩ 2 2 [.string y, .string y2] (by rw [hz1]; rfl) hnews (by omega) (by omega) (growslice_fits (by omega) (by rw [hz2]; omega))
      rw [hr'] at hr
      simp only [Result.ok.injEq] at hr
      obtain ⟨rfl, rfl⟩ := hr
      have l1 := hlast _ _ _ h2
      have hcm2 : (grownCap w (k + 2) rc 9) ≤ maxLen := grownCap_le_maxLen w (k + 2) rc 9 (by unfold maxLen; omega)
      have hge2 := grownCap_ge w (k + 2) rc 9
      exact ⟨w.heap.size, _, _, hr', l1, hge2, hcm2, owns_keepB hown (fun q hq => by cases hq; exact Below.heap_alloc w.drew _ g (hown.lt g rfl).2), h3, .inr (Nat.le_refl _), World.block_lt_of_cell? _ _ l1.1⟩
theorem wp_pushB {ops : Array Oper} {rest : List Oper} {o : Oper} {a : Act} {Q : Exit → Act → World → Prop} (W0 w : World) (B base : Nat) (hgd : o.guard = none) (s x : Operand)
    (ho : o.op = .call { callee := .builtin .append, args := #[s, x], argTypes := #[28, 28] }) (ro : Option Addr) (k rc : Nat) (zs : List Value) (y y2 : ByteArray) (g0 : Nat) (hs : a.eval s = .slice ro k rc) (hx : a.eval x = .slice (some ⟨g0, 0, none⟩) 2 2)
    (hown : w.ownsRow base 9 1 (.slice ro k rc) k zs) (hc0 : w.cell? ⟨g0, 0, none⟩ = some (.string y)) (hc1 : w.cell? ⟨g0, 1, none⟩ = some (.string y2)) (hk : (k + 2) * 16 ≤ 140737488355328) (hbase : base ≤ w.heap.size) (hbel : Below B W0 w) (hB : B ≤ base)
    (h : ∀ g' c' w', w'.cell? ⟨g', k, none⟩ = some (.string y) → w'.cell? ⟨g', k + 1, none⟩ = some (.string y2) → k + 2 ≤ c' → c' ≤ 9223372036854775807 → w'.ownsRow base 9 1 (.slice ro k rc) k zs → w.grownBy w' (Value.slice ro k rc).ownBlock → ((Value.slice ro k rc).ownBlock = some g' ∨ w.heap.size ≤ g') → g' < w'.heap.size → Below B W0 w' →
      wpList Try.prog ops Q rest (a.put o.dst (.slice (some ⟨g', 0, none⟩) (k + 2) c')) w') : wpList Try.prog ops Q (o :: rest) a w := by
  obtain ⟨g', c', w', hr, l1, l3, l4, h2, h3, h4, h5⟩ := run_pushB w base o.type ro k rc zs y y2 g0 hown hc0 hc1 hk hbase
  refine wpList_plain hgd fun _ hK => ?_
  unfold Oper.wp execOp
  simp only [ho, resolve, invoke, builtin, Sem.run_bind, Sem.run_pure, Result.andThen_ok, List.map_toArray, List.map_cons, List.map_nil, hs, hx, hr]
  refine hK _ _ (h g' c' w' l1.1 l1.2 l3 l4 h2 h3 h4 h5 (hbel.grown h3 (by omega) ?_))
  intro q hq
  have := hown.lt q hq
  omega
theorem apart_ownB {W : World} {B n : Nat} {v u : Value} {xs : List Value} (hl : ∀ k, v.ownBlock = some k → k < B) (hu : W.ownsRow B 9 1 u n xs) : u.ownBlock = none ∨ u.ownBlock ≠ v.ownBlock := by
  cases hq : u.ownBlock with
  | none => exact .inl rfl
  | some k =>
    refine .inr (fun e => ?_)
    have h1 := (hu.lt k hq).1
    have h2 := hl k e.symm
    omega
theorem apart_newB {W : World} {o : Obj} {B g1 n : Nat} {v u : Value} {xs : List Value} (hl : ∀ k, v.ownBlock = some k → k < B) (hu : W.ownsRow B 9 1 u n xs) (h : v.ownBlock = some g1 ∨ (W.alloc o).heap.size ≤ g1) : some g1 ≠ u.ownBlock := by
  intro e
  have h1 := hu.lt g1 e.symm
  rcases h with h | h
  · have := hl g1 h; omega
  · rw [World.size_alloc] at h; omega
theorem far_cellB {x1 x2 : World} {o : Obj} {g1 k : Nat} {y : Value} {row : Option Nat} (hg : g1 < x1.heap.size) (h : x1.cell? ⟨g1, k, none⟩ = some y) (hgy : (x1.alloc o).grownBy x2 row) (hne : some g1 ≠ row) : x2.cell? ⟨g1, k, none⟩ = some y :=
  hgy.cell (a := ⟨g1, k, none⟩) ((World.cell?_of_block (Below.heap_alloc _ _ _ hg)).trans h) hne
theorem rdsB {w : World} {base : Nat} {t : TypeId} {ro : Option Addr} {n c : Nat} {ss : List ByteArray} (h : w.ownsRow base t 1 (.slice ro n c) n (cellsS ss)) : RdS w ro n c ss := by
  obtain ⟨ro', cr', e, h'⟩ := rds_of_owns h
  cases e
  exact h'
set_option maxRecDepth 100000 in
set_option maxHeartbeats 8000000 in
theorem memory_walk (C : TreeC) (f : Fm) (v : Value) (w : World) (hv : FmV w f v) : Calls Try.prog 6 #[v] w fun e w' => e = .returned (.bool true) ∧ Below w.heap.size w w' := by
  have FX : Hid (∀ w, Calls Try.prog 9 #[] w fun e w' => e = .returned (.bool true) ∧ Below w.heap.size w w') := fun w => lfixed6_at C w
  have hLn : (frOf f).length ≤ 500 := by
    unfold frOf
    split
    · rename_i h0
      have := ((chk_iff nmB f).1 h0).1
      have := freeF_len f
      omega
    · simp
  have FR : Hid (∀ w1, Below w.heap.size w w1 → Calls Try.prog 10 #[v] w1 fun e w' => ∃ v', e = .returned (.tuple #[v', .int .i64 (chk nmB f)]) ∧ w'.ownsRow w1.heap.size 9 1 v' (frOf f).length (cellsS (frOf f)) ∧ Below w1.heap.size w1 w') := fun w1 h => C.free w f v w1 hv h
  have SM : Hid (∀ ao ao' n c m c' (T : List ByteArray) w, RdS w ao n c T → RdS w ao' m c' T → Calls Try.prog 12 #[.slice ao n c, .slice ao' m c'] w fun e w' => e = .returned (.bool true) ∧ Below w.heap.size w w') := fun ao ao' n c m c' T w h k => lsame_at ao ao' n c m c' T T true w h k ⟨fun _ => rfl, fun _ => rfl⟩
  obtain ⟨c0, c1, c2, c3, c4, rfl, _⟩ := hv
  clear C
  generalize chk nmB f = ec at *
  generalize frOf f = L at *
  obtain ⟨n, hn⟩ : ∃ n, L.length = n := ⟨_, rfl⟩
  rw [hn] at FR hLn
  have hee : ((ec : Int) == (ec : Int)) = true := by simp
  go_enter Try.func6, Try.ntmps6
  go_wp2_with (fail)
  refine (FX.out _).mono ?_
  rintro e w1 ⟨rfl, hB1⟩
  obtain ⟨_, _, x1, _⟩ := res_keep hB1
  have hb1 := ba2 hB1
  have hw1 : w.heap.size < w1.heap.size := by have := hB1.size; simp at this; omega
  go_wp2_with (fail)
  refine (FR.out _ hb1).mono ?_
  rintro e w2 ⟨v2, rfl, hO2, hB2⟩
  have x2 := box_cells x1 hw1 hB2
  obtain ⟨a2, r2, rfl, hR2⟩ := rds_of_owns hO2
  go_wp2_with (fail)
  refine (FR.out _ (bt2 hb1 hB2)).mono ?_
  rintro e w3 ⟨v3, rfl, hO3, hB3⟩
  have x3 := box_cells x1 hw1 (bt2 hB2 hB3)
  obtain ⟨a3, r3, rfl, hR3⟩ := rds_of_owns hO3
  go_wp2_with (at_builtin; refine wp_copyS w3 rfl (.tmp 26) (.tmp 27) rfl rfl a3 n r3 L rfl hR3 (by omega) ?_; intro v4 w4 hO4 hB4; obtain ⟨a4, r4, rfl, hR4⟩ := rds_of_owns hO4)
  have hP2 := owns_below hO2 (bt2 hB3 hB4)
  have hP3 := owns_below hO3 hB4
  have hl2 : ∀ k, (Value.slice a2 n r2).ownBlock = some k → k < w2.heap.size := fun k hk => (hO2.lt k hk).2
  have hl2' : ∀ k, (Value.slice a2 n r2).ownBlock = some k → k < w3.heap.size := fun k hk => Nat.lt_of_lt_of_le (hl2 k hk) hB3.size
  have hl3 : ∀ k, (Value.slice a3 n r3).ownBlock = some k → k < w3.heap.size := fun k hk => (hO3.lt k hk).2
  have h12 : w1.heap.size ≤ w2.heap.size := hB2.size
  have h23 : w2.heap.size ≤ w3.heap.size := hB3.size
  have h34 : w3.heap.size ≤ w4.heap.size := hB4.size
  have hB14 : Below w1.heap.size w1 w4 := bt2 (bt2 hB2 hB3) hB4
  clear hO2 hO3 hR2 hR3 hR4 hB2 hB3 hB4 x2 x3 hB1
  go_loopw [31] (fun i wr => ∃ (k : Nat) (xs : List Value), k ≤ n ∧ i = .int .i64 k ∧ wr.ownsRow w1.heap.size 9 1 (.slice a2 n r2) n xs ∧ wr.ownsRow w2.heap.size 9 1 (.slice a3 n r3) n (cellsS L) ∧ wr.ownsRow w3.heap.size 9 1 (.slice a4 n r4) n (cellsS L) ∧ Below w1.heap.size w1 wr ∧ w3.heap.size ≤ wr.heap.size) (fun i _ => n - (intOf i).toNat)
  case atStart => exact ⟨0, _, Nat.zero_le _, rfl, hP2, hP3, hO4, hB14, h34⟩
  case round =>
    clear hP2 hP3 hO4 hB14 h34
    obtain ⟨k, xs, hk, rfl, hOa, hOb, hOw, hBr, hW⟩ := hrel
    by_cases hlt : k < n
    · rcases hOa.2 with ⟨_, h0⟩ | ⟨g, cap, cur, e, hbg, hgg, hnc, hcm, _⟩
      · omega
      · obtain ⟨rfl, _, rfl⟩ := Value.slice.inj e
        have hcell : wr.cell? ⟨g, k, none⟩ = some (xs[k]'(by have := hOa.1; omega)) := by rw [hOa.cellAt k (by omega), List.getElem?_eq_getElem]
        have hfr : wr.frozen? ⟨g, k, none⟩ = false := hOa.frozenAt k
        have hg2 : g < w2.heap.size := hl2 g rfl
        have hst := hOa.stored k (.string ⟨#[115, 112, 111, 105, 108, 116]⟩)
        have HST : Hid _ := hst
        generalize xs[k]'(by have := hOa.1; omega) = x at hcell
        have hcx : r2 ≤ 9223372036854775807 := hcm
        clear hst e hgg hnc hcm
        go_wp2
        go_roundw
        case rel => exact ⟨k + 1, _, by omega, by go_num, HST.out.1, hOb.kept HST.out.2 (.inr (fun e => by have := (hOb.lt g e).1; omega)), hOw.kept HST.out.2 (.inr (fun e => by have := (hOw.lt g e).1; omega)), hBr.setCell hbg _, by simpa using hW⟩
        case measure => simp [intOf]; omega
    · obtain rfl : k = n := by omega
      have hk3 : (k + 2) * 16 ≤ 140737488355328 := by omega
      have hlt' : decide (k < k) = false := decide_eq_false (by omega)
      go_wp2_with (first
        | (at_builtin; refine wp_pushB w1 _ w1.heap.size w1.heap.size rfl (.tmp 40) (.tmp 41) rfl a2 k r2 xs ⟨#[49]⟩ ⟨#[50]⟩ wr.heap.size rfl rfl (hOa.alloc _) (by simp) (by simp) hk3 (size_new1 hBr.size _) (hBr.alloc hBr.size _) (Nat.le_refl _) ?_; intro g1 d1 y1 l1 l2 l3 l4 hOx hgx hgx2 hgx3 hBx; have hOb1 := (hOb.alloc (.cells #[.string ⟨#[49]⟩, .string ⟨#[50]⟩] 9)).kept hgx (apart_ownB hl2 hOb); have hOw1 := (hOw.alloc (.cells #[.string ⟨#[49]⟩, .string ⟨#[50]⟩] 9)).kept hgx (apart_ownB hl2' hOw))
        | (at_builtin; refine wp_pushB w1 _ w1.heap.size w2.heap.size rfl (.tmp 43) (.tmp 44) rfl a3 k r3 (cellsS L) ⟨#[51]⟩ ⟨#[52]⟩ y1.heap.size rfl rfl (hOb1.alloc _) (by simp) (by simp) hk3 (size_new1 (Nat.le_trans h23 (Nat.le_trans (size_new1 hW _) hgx.size)) _) (hBx.alloc hBx.size _) h12 ?_; intro g2 d2 y2 m1 m2 m3 m4 hOy hgy hgy2 hgy3 hBy; have hx2 := far_cellB hgx3 l1 hgy (apart_newB hl2 hOb hgx2); have hOw2 := (hOw1.alloc (.cells #[.string ⟨#[51]⟩, .string ⟨#[52]⟩] 9)).kept hgy (apart_ownB hl3 hOw1); have z1 := box_cells x1 hw1 hBy)
        | (go_at_call 10; refine (FR.out _ (bt2 hb1 hBy)).mono ?_; rintro e w5 ⟨v5, rfl, hO5, hB5⟩; obtain ⟨a5, r5, rfl, hR5⟩ := rds_of_owns hO5; have hRb := (rdsB hOy).below (Nat.le_refl _) hB5; have hRw := (rdsB hOw2).below (Nat.le_refl _) hB5; have hx3 := (hB5.cell (World.block_lt_of_cell? _ _ hx2)).trans hx2; have m1' := (hB5.cell (World.block_lt_of_cell? _ _ m1)).trans m1; have m2' := (hB5.cell (World.block_lt_of_cell? _ _ m2)).trans m2)
        | (have _t := q1; go_at_call 12; refine (SM.out _ _ _ _ _ _ L _ (hR5.below (Nat.le_refl _) hB6) (hRw.below (Nat.le_refl _) hB6)).mono ?_; rintro e w7 ⟨rfl, hB7⟩; have hx5 := (hB7.cell (World.block_lt_of_cell? _ _ hx4)).trans hx4; have m1s := (hB7.cell (World.block_lt_of_cell? _ _ m1'')).trans m1''; have m2s := (hB7.cell (World.block_lt_of_cell? _ _ m2'')).trans m2'')
        | (go_at_call 12; refine (SM.out _ _ _ _ _ _ L _ hRb hRw).mono ?_; rintro e w6 ⟨rfl, hB6⟩; have q1 : Hid True := trivial; have hx4 := (hB6.cell (World.block_lt_of_cell? _ _ hx3)).trans hx3; have m1'' := (hB6.cell (World.block_lt_of_cell? _ _ m1')).trans m1'; have m2'' := (hB6.cell (World.block_lt_of_cell? _ _ m2')).trans m2'))
      go_ret
      exact ⟨rfl, bt2 (bt2 (bt2 (bt2 hb1 hBy) hB5) hB6) hB7⟩
end Go.Proofs.Ytiihabecncnbcaa.Gl
