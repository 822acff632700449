/- RowPacks: the walk. -/
import Derived.Test.YthkabeaecfiinaaRwG
namespace Go.Proofs.Ythkabeaecfiinaa.Ro
open Go.RowKit
set_option linter.unusedVariables false

theorem rdc_own {w : World} {base : Nat} {t : TypeId} {a : Option Addr} {n c : Nat} {cs : List Cb} (h : w.ownsRow base t 3 (.slice a n c) n (cellsC cs)) : RdC w a n c cs := by
  obtain ⟨ro, cr, e, hR⟩ := rdc_of_owns h
  obtain ⟨rfl, -, rfl⟩ := Value.slice.inj e
  exact hR
theorem own_kp {w w' : World} {base : Nat} {e : TypeId} {size : Nat} {v : Value} {n : Nat} {xs : List Value} {r : Option Nat} (h : w.ownsRow base e size v n xs) (hk : Kp r w w') (hr : ∀ q, r = some q → q < base) : w'.ownsRow base e size v n xs := by
  obtain ⟨h1, h2⟩ := h
  refine ⟨h1, ?_⟩
  rcases h2 with h2 | ⟨g, cap, cur, a, b, c, d⟩
  · exact .inl h2
  · exact .inr ⟨g, cap, cur, a, b, by rw [hk.block g (Array.getElem?_eq_some_iff.1 c).1 (fun e => by have := hr g e.symm; omega)]; exact c, d⟩
theorem own_some {w : World} {base : Nat} {e : TypeId} {size : Nat} {a : Option Addr} {m n c : Nat} {xs : List Value} (h : w.ownsRow base e size (.slice a m c) n xs) (hn : 0 < n) : ∃ g, a = some ⟨g, 0, none⟩ ∧ base ≤ g ∧ g < w.heap.size := by
  rcases h.2 with ⟨h1, h2⟩ | ⟨g, cap, cur, e1, h1, h2, -⟩
  · omega
  · obtain ⟨rfl, -, -⟩ := Value.slice.inj e1
    exact ⟨g, rfl, h1, (Array.getElem?_eq_some_iff.1 h2).1⟩
theorem own_at {w : World} {base g n cap : Nat} {e : TypeId} {size : Nat} {xs : List Value} (h : w.ownsRow base e size (.slice (some ⟨g, 0, none⟩) n cap) n xs) (p : Nat) (hp : p < n * size) : ∃ u, w.cell? ⟨g, p, none⟩ = some u := by
  have hl := h.1
  exact ⟨xs[p], by rw [h.cellAt p (by omega), List.getElem?_eq_getElem]⟩
/-- 'append(v, d)' where what v holds is of no matter -/
theorem wp_pushX {ops : Array Oper} {rest : List Oper} {o : Oper} {a : Act} {Q : Exit → Act → World → Prop} (Wc : World) (base : Nat) (hgd : o.guard = none) (s x : Operand)
    (ho : o.op = .call { callee := .builtin .append, args := #[s, x], argTypes := #[26, 26] }) (v : Value) (k : Nat) (xs : List Value) (hs : a.eval s = v) (g : Nat) (d : Cb) (hx : a.eval x = .slice (some ⟨g, 0, none⟩) 1 1)
    (hown : Wc.ownsRow base 35 3 v k xs) (h0 : Wc.cell? ⟨g, 0, none⟩ = some (.int .i64 d.m)) (h1 : Wc.cell? ⟨g, 1, none⟩ = some (.int .i64 d.b)) (h2 : Wc.cell? ⟨g, 2, none⟩ = some (.int .i64 d.t)) (hbase : base ≤ Wc.heap.size) (hk : (k + 1) * 24 ≤ 140737488355328)
    (h : ∀ g' c' w', g' < w'.heap.size → k + 1 ≤ c' → c' ≤ 9223372036854775807 → w'.cell? ⟨g', k * 3 + 2, none⟩ = some (.int .i64 d.t) → Kp v.ownBlock Wc w' → wpList Try.prog ops Q rest (a.put o.dst (.slice (some ⟨g', 0, none⟩) (k + 1) c')) w') : wpList Try.prog ops Q (o :: rest) a Wc := by
  obtain ⟨i0, hi, hz0, hz1, hz2⟩ := info_parts Try.infoCube
  have hcells : ∀ j u, (cellsC [d])[j]? = some u → Wc.cell? ((⟨g, 0, none⟩ : Addr).add j) = some u := cells_argC (m := 1) (c := 1) (by
    refine ⟨rfl, Nat.le_refl _, by omega, (fun e => nomatch e), fun i hi => ?_⟩
    obtain rfl : i = 0 := by omega
    exact ⟨g, 0, rfl, World.block_lt_of_cell? _ _ h0, by simpa using h0, by simpa using h1, by simpa using h2⟩)
  have hxl := hown.1
  obtain ⟨v', w', hr, h2', h3, h4⟩ := run_append_where (P := Try.prog) base 26 o.type 35 i0 _ 3 24 Try.underlying26 hi hz0 hz1 hz2 rfl (by decide) v k xs hown ⟨g, 0, none⟩ 1 1 (cellsC [d]) rfl hcells (Ro.cells_one [d]) (by unfold maxLen; omega) (by omega) hbase
  rcases h2'.2 with ⟨_, hn⟩ | ⟨g', c', cur, rfl, hb', hh', hn', hm', _⟩
  · omega
  · refine wpList_plain hgd fun _ hK => ?_
    unfold Oper.wp execOp
    simp only [ho, resolve, invoke, builtin, Sem.run_bind, Sem.run_pure, Result.andThen_ok, List.map_toArray, List.map_cons, List.map_nil, hs, hx, hr]
    refine hK _ _ (h g' c' w' (Array.getElem?_eq_some_iff.1 hh').1 hn' hm' ?_ h3)
    rw [h2'.cellAt (k * 3 + 2) (by omega), List.getElem?_append_right (by omega), show k * 3 + 2 - xs.length = 2 by omega]
    rfl
set_option maxHeartbeats 2000000 in
theorem packs_walk (ao : Option Addr) (n c : Nat) (zs : List Int) (w : World) (h : RdZ w ao n c zs) (hm : n * 8 ≤ 140737488351232) :
    Calls Try.prog 3 #[.slice ao n c] w fun e w' => e = .returned (.bool true) ∧ Below w.heap.size w w' := by
  obtain ⟨L, er, hp⟩ := packV_is zs
  have HP : Hid (packV zs L er) := hp
  have hL := packV_len hp
  clear hp
  go_enter Try.func3, Try.ntmps3
  go_wp2_with (first
    | (at_builtin; refine wp_copyZ w w rfl (.tmp 14) (.tmp 15) rfl (Below.refl _ _) rfl ao n c zs rfl h hm ?_; intro a1 c1 w1 hR1 hB1 hO1; clear hO1; have hr1 := h.below (Nat.le_refl _) hB1)
    | (go_at_call 8; refine (leaves_at _ _ _ zs L er _ hR1 HP.out).mono ?_; rintro e w2 ⟨rfl, hB2⟩; have hW2 := bt2 hB1 hB2; have hR2 := hR1.below (Nat.le_refl _) hB2)
    | (go_at_call 9; have _t := q7; refine (pack_any _ _ _ zs L er _ hR7 HP.out).mono ?_; rintro e w8 ⟨a8, c8, rfl, hO8, hB8⟩; have hW8 := bt2 hW7 hB8; have hc8 := own_keep hc7 hB8; have hd8 := own_keep hd7 hB8; clear q7)
    | (go_at_call 9; refine (pack_any _ _ _ zs L er _ hR2 HP.out).mono ?_; rintro e w3 ⟨a3, c3, rfl, hO3, hB3⟩; have hW3 := bt2 hW2 hB3; have hR3 := hR2.below (Nat.le_refl _) hB3; have hr3 := h.below (Nat.le_refl _) hW3)
    | (go_at_call 10; refine (rpack_any _ _ _ zs L er _ hr3 HP.out).mono ?_; rintro e w4 ⟨a4, c4, rfl, hO4, hB4⟩; have hW4 := bt2 hW3 hB4; have hR4 := hR3.below (Nat.le_refl _) hB4; have hc4 := own_keep hO3 hB4)
    | (go_at_call 11; refine (fixed_at _).mono ?_; rintro e w5 ⟨rfl, hB5⟩; have hW5 := bt2 hW4 hB5; have hR5 := hR4.below (Nat.le_refl _) hB5; have hc5 := own_keep hc4 hB5; have hd5 := own_keep hO4 hB5)
    | (go_at_call 12; refine (cubes_at _ _ _ _ _ _ L L true _ (rdc_own hc5) (rdc_own hd5) ⟨fun _ => rfl, fun _ => rfl⟩).mono ?_; rintro e w6 ⟨rfl, hB6⟩; have hW6 := bt2 hW5 hB6; have hR6 := hR5.below (Nat.le_refl _) hB6; have hc6 := own_keep hc5 hB6; have hd6 := own_keep hd5 hB6; have hr6 := h.below (Nat.le_refl _) hW6)
    | (go_at_call 13; refine (ints_at _ _ _ _ _ _ zs zs true _ hR6 hr6 ⟨fun _ => rfl, fun _ => rfl⟩).mono ?_; rintro e w7 ⟨rfl, hB7⟩; have hW7 := bt2 hW6 hB7; have hR7 := hR6.below (Nat.le_refl _) hB7; have hc7 := own_keep hc6 hB7; have hd7 := own_keep hd6 hB7; have q7 : Hid True := trivial)
    | (fail))
  have hbs := fun q (e : (Value.slice a3 L.length c3).ownBlock = some q) => hO3.lt q e
  have hsz8 : w3.heap.size ≤ w8.heap.size := (bt2 (bt2 (bt2 (bt2 hB4 hB5) hB6) hB7) hB8).size
  have hsz7 : w3.heap.size ≤ w7.heap.size := (bt2 (bt2 (bt2 hB4 hB5) hB6) hB7).size
  have hsw2 : w.heap.size ≤ w2.heap.size := hW2.size
  go_loopw [69] (fun i wr => ∃ (j : Nat) (xs : List Value), j ≤ L.length ∧ i = .int .i64 j ∧ wr.ownsRow w2.heap.size 35 3 (.slice a3 L.length c3) L.length xs ∧ Kp (Value.slice a3 L.length c3).ownBlock w8 wr) (fun i _ => L.length - (intOf i).toNat)
  case atStart => exact ⟨0, _, Nat.zero_le _, rfl, hc8, Kp.refl _ _⟩
  case round =>
    obtain ⟨j, xs, hj, rfl, hX, hK⟩ := hrel
    by_cases hlt : j < L.length
    · obtain ⟨g, rfl, hg1, hg2⟩ := own_some hX (by omega)
      have f0 := hX.frozenAt (j * 3)
      obtain ⟨u0, k0⟩ := own_at hX (j * 3) (by omega)
      have hX1 := (hX.stored (j * 3) (.int .i64 0)).1
      have f1 := hX1.frozenAt (j * 3 + 1)
      obtain ⟨u1, k1⟩ := own_at hX1 (j * 3 + 1) (by omega)
      have hX2 := (hX1.stored (j * 3 + 1) (.int .i64 0)).1
      have f2 := hX2.frozenAt (j * 3 + 2)
      obtain ⟨u2, k2⟩ := own_at hX2 (j * 3 + 2) (by omega)
      have hX3 := (hX2.stored (j * 3 + 2) (.int .i64 (-1))).1
      have hK1 := hK.trans (hX.stored (j * 3) (.int .i64 0)).2 (fun q e => .inl e)
      have hK2 := hK1.trans (hX1.stored (j * 3 + 1) (.int .i64 0)).2 (fun q e => .inl e)
      have hK3 := hK2.trans (hX2.stored (j * 3 + 2) (.int .i64 (-1))).2 (fun q e => .inl e)
      have hcap : L.length ≤ c3 ∧ c3 ≤ 9223372036854775807 := by
        have := (rdc_own hO3)
        exact ⟨this.lecap, this.lemax⟩
      go_wp2
      go_roundw
      case rel => exact ⟨j + 1, _, by omega, by go_num, hX3, hK3⟩
      case measure => simp [intOf]; omega
    · obtain rfl : j = L.length := by omega
      have h9' : ∀ o, (wr.alloc o).ownsRow w7.heap.size 35 3 (.slice a8 L.length c8) L.length (cellsC L) := fun o => own_keep (own_kp hO8 hK (fun q e => by have := (hbs q e).2; omega)) (bal _ _)
      have hd9' : ∀ o, (wr.alloc o).ownsRow w3.heap.size 35 3 (.slice a4 L.length c4) L.length (cellsC L) := fun o => own_keep (own_kp hd8 hK (fun q e => (hbs q e).2)) (bal _ _)
      have hXa : ∀ o, (wr.alloc o).ownsRow w2.heap.size 35 3 (.slice a3 L.length c3) L.length xs := fun o => own_keep hX (bal _ _)
      have hsa : ∀ o, w2.heap.size ≤ (wr.alloc o).heap.size := fun o => by have := hK.size; have := hB3.size; simp; omega
      go_wp2_with (first
        | (at_builtin; refine wp_pushX _ w2.heap.size rfl (.tmp 77) (.tmp 79) rfl _ L.length xs rfl wr.heap.size ⟨0, 0, -2⟩ rfl (hXa _) ?_ ?_ ?_ (hsa _) (by omega) ?_; rotate_left 3; intro g9 c9 w9 hg9 hn9 hc9 hl9 hK9; have h9 := own_kp (h9' _) hK9 (fun q e => by have := (hbs q e).2; omega); have hd9 := own_kp (hd9' _) hK9 (fun q e => (hbs q e).2); have hKe : Kp (Value.slice a3 L.length c3).ownBlock w8 w9 := (hK.trans (Kp.of (bal wr _)) (fun q e => .inl e)).trans hK9 (fun q e => .inl e); have q9 : Hid True := trivial)
        | (go_at_call 12; have _t := q9; refine (cubes_at _ _ _ _ _ _ L L true _ (rdc_own h9) (rdc_own hd9) ⟨fun _ => rfl, fun _ => rfl⟩).mono ?_; rintro e w10 ⟨rfl, hB10⟩; have hl10 := (hB10.cell (p := ⟨g9, L.length * 3 + 2, none⟩) hg9).trans hl9))
      go_ret
      refine ⟨rfl, ?_⟩
      have hend : Below w.heap.size w w9 := hW8.trans (hKe.below (fun q e => by have := (hbs q e).1; omega) hW8.size)
      exact bt2 hend hB10
end Go.Proofs.Ythkabeaecfiinaa.Ro
