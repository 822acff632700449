/- Slices of texts that are written over and grown. -/
import Derived.Test.YtdfdbhjgighkpaaGlW
namespace Go.Proofs.Ytdfdbhjgighkpaa.Gl
open Go.RowKit
set_option linter.unusedVariables false

theorem owns_keep {w : World} {base n : Nat} {v : Value} {xs : List Value} (h : w.ownsRow base 9 1 v n xs) {w' : World} (hb : ∀ k, v.ownBlock = some k → w'.heap[k]? = w.heap[k]?) : w'.ownsRow base 9 1 v n xs := by
  refine ⟨h.1, ?_⟩
  rcases h.2 with hn | ⟨g, cap, cur, rfl, hbg, hgg, rest⟩
  · exact .inl hn
  · refine .inr ⟨g, cap, cur, rfl, hbg, ?_, rest⟩
    rw [hb g rfl]
    exact hgg
/-- 'append(v, y, y)', the two in a new block: where they lie, and that v reads as it did -/
theorem run_push2 (w : World) (base : Nat) (ty : TypeId) (ro : Option Addr) (k rc : Nat) (zs : List Value) (y : ByteArray) (g0 : Nat) (hown : w.ownsRow base 9 1 (.slice ro k rc) k zs) (hc0 : w.cell? ⟨g0, 0, none⟩ = some (.string y)) (hc1 : w.cell? ⟨g0, 1, none⟩ = some (.string y)) (hk : (k + 2) * 16 ≤ 140737488355328) (hbase : base ≤ w.heap.size) :
    ∃ g' c' w', (Builtin.append_ #[35, 35] ty #[.slice ro k rc, .slice (some ⟨g0, 0, none⟩) 2 2]).run Try.prog w = .ok (.slice (some ⟨g', 0, none⟩) (k + 2) c') w' ∧ w'.cell? ⟨g', k, none⟩ = some (.string y) ∧ k + 2 ≤ c' ∧ c' ≤ 9223372036854775807
      ∧ w'.ownsRow base 9 1 (.slice ro k rc) k zs ∧ w.grownBy w' (Value.slice ro k rc).ownBlock ∧ ((Value.slice ro k rc).ownBlock = some g' ∨ w.heap.size ≤ g') ∧ g' < w'.heap.size := by
  obtain ⟨i, hi, hz0, hz1, hz2⟩ := info_parts Try.infoStr
  have hxl := hown.1
  have hnews : ∀ j u, ([.string y, .string y] : List Value)[j]? = some u → w.cell? ((⟨g0, 0, none⟩ : Addr).add j) = some u := by
    intro j u hj
    match j, hj with
    | 0, hj => simp at hj; subst hj; simpa [Addr.add] using hc0
    | 1, hj => simp at hj; subst hj; simpa [Addr.add] using hc1
  have h1 : ∀ u ∈ ([.string y, .string y] : List Value), u.oneCell' = true := by
    intro u hu; simp at hu; subst hu; rfl
  have hlast : ∀ (W : World) (g' c' : Nat), W.ownsRow base 9 1 (.slice (some ⟨g', 0, none⟩) (k + 2) c') (k + 2) (zs ++ [.string y, .string y]) → W.cell? ⟨g', k, none⟩ = some (.string y) := by
    intro W g' c' hW
    have hl : zs.length = k := by omega
    rw [hW.cellAt k (by omega), List.getElem?_append_right (by omega), hl, Nat.sub_self]; rfl
  obtain ⟨v', w', hr, h2, h3, h4⟩ := run_append_own (P := Try.prog) w base 35 ty 9 i (.string emp) 1 16 Try.underlying35 hi hz0 hz1 hz2 rfl (by decide) (.slice ro k rc) k zs hown ⟨g0, 0, none⟩ 2 2 [.string y, .string y] rfl hnews h1 (by unfold maxLen; omega) (by omega) hbase
  rcases hown.2 with ⟨e, rfl⟩ | ⟨g, cap, cur, e, hbg, hg, hnc, hcm, hcs, htake⟩
  · rcases h2.2 with ⟨e2, h0⟩ | ⟨g', c', cur', rfl, hb', hh', hn', hm', _⟩
    · omega
    · have l1 := hlast w' g' c' h2
      simp only [Value.slice.injEq] at e
      obtain ⟨rfl, _, rfl⟩ := e
      refine ⟨g', c', w', hr, l1, hn', hm', ⟨hxl, .inl ⟨rfl, rfl⟩⟩, h3, .inr ?_, World.block_lt_of_cell? _ _ l1⟩
      apply Classical.byContradiction
      intro hlt
      have hr' := run_append_nil (P := Try.prog) w 35 ty 9 i (.string emp) Try.underlying35 hi hz0 ⟨g0, 0, none⟩ 2 2 [.string y, .string y] (by rw [hz1]; rfl) hnews (by omega) (by omega) (by rw [hz2]; omega)
      rw [hr'] at hr
      simp only [Result.ok.injEq, Value.slice.injEq, Option.some.injEq, Addr.mk.injEq, and_true] at hr
      omega
  · simp only [Value.slice.injEq, true_and] at e
    obtain ⟨rfl, rfl⟩ := e
    by_cases hroom : k + 2 ≤ rc
    · have hr' := run_append_room (P := Try.prog) w 35 ty 9 i Try.underlying35 hi g k rc cur hg ⟨g0, 0, none⟩ 2 2 [.string y, .string y] (by rw [hz1]; rfl) hnews h1 hroom (by rw [hz1, hcs]; simp; omega)
      rw [hr'] at hr
      simp only [Result.ok.injEq] at hr
      obtain ⟨rfl, rfl⟩ := hr
      have l1 := hlast _ g rc h2
      exact ⟨g, rc, _, hr', l1, hroom, hcm, owns_prefix (ys := [.string y, .string y]) (by omega) h2 rfl, h3, .inl rfl, World.block_lt_of_cell? _ _ l1⟩
    · have hr' := run_append_grow (P := Try.prog) w 35 ty 9 i (.string emp) Try.underlying35 hi hz0 ⟨g, 0, none⟩ k rc zs (by rw [hz1]; exact hxl) (hown.cells rfl) ⟨g0, 0, none⟩ 2 2 [.string y, .string y] (by rw [hz1]; rfl) hnews (by omega) (by omega) (growslice_fits (by omega) (by rw [hz2]; omega))
      rw [hr'] at hr
      simp only [Result.ok.injEq] at hr
      obtain ⟨rfl, rfl⟩ := hr
      have l1 := hlast _ _ _ h2
      have hcm2 : (grownCap w (k + 2) rc 9) ≤ maxLen := grownCap_le_maxLen w (k + 2) rc 9 (by unfold maxLen; omega)
      have hge2 := grownCap_ge w (k + 2) rc 9
      exact ⟨w.heap.size, _, _, hr', l1, hge2, hcm2, owns_keep hown (fun q hq => by cases hq; exact Below.heap_alloc w.drew _ g (hown.lt g rfl).2), h3, .inr (Nat.le_refl _), World.block_lt_of_cell? _ _ l1⟩
theorem wp_push2 {ops : Array Oper} {rest : List Oper} {o : Oper} {a : Act} {Q : Exit → Act → World → Prop} (W0 w : World) (B base : Nat) (hgd : o.guard = none) (s x : Operand)
    (ho : o.op = .call { callee := .builtin .append, args := #[s, x], argTypes := #[35, 35] }) (ro : Option Addr) (k rc : Nat) (zs : List Value) (y : ByteArray) (g0 : Nat) (hs : a.eval s = .slice ro k rc) (hx : a.eval x = .slice (some ⟨g0, 0, none⟩) 2 2)
    (hown : w.ownsRow base 9 1 (.slice ro k rc) k zs) (hc0 : w.cell? ⟨g0, 0, none⟩ = some (.string y)) (hc1 : w.cell? ⟨g0, 1, none⟩ = some (.string y)) (hk : (k + 2) * 16 ≤ 140737488355328) (hbase : base ≤ w.heap.size) (hbel : Below B W0 w) (hB : B ≤ base)
    (h : ∀ g' c' w', w'.cell? ⟨g', k, none⟩ = some (.string y) → k + 2 ≤ c' → c' ≤ 9223372036854775807 → w'.ownsRow base 9 1 (.slice ro k rc) k zs → w.grownBy w' (Value.slice ro k rc).ownBlock → ((Value.slice ro k rc).ownBlock = some g' ∨ w.heap.size ≤ g') → g' < w'.heap.size → Below B W0 w' →
      wpList Try.prog ops Q rest (a.put o.dst (.slice (some ⟨g', 0, none⟩) (k + 2) c')) w') : wpList Try.prog ops Q (o :: rest) a w := by
  obtain ⟨g', c', w', hr, l1, l3, l4, h2, h3, h4, h5⟩ := run_push2 w base o.type ro k rc zs y g0 hown hc0 hc1 hk hbase
  refine wpList_plain hgd fun _ hK => ?_
  unfold Oper.wp execOp
  simp only [ho, resolve, invoke, builtin, Sem.run_bind, Sem.run_pure, Result.andThen_ok, List.map_toArray, List.map_cons, List.map_nil, hs, hx, hr]
  refine hK _ _ (h g' c' w' l1 l3 l4 h2 h3 h4 h5 (hbel.grown h3 (by omega) ?_))
  intro q hq
  have := hown.lt q hq
  omega
end Go.Proofs.Ytdfdbhjgighkpaa.Gl
