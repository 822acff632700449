/- Appends whose old slice stays: for BitsNil. -/
import Derived.Test.YtholafecbmhhhaaFilled
namespace Go.Proofs.Ytholafecbmhhhaa.Dg
open Go.RowKit
set_option linter.unusedVariables false

theorem owns_prefix {w : World} {base g k cap c2 : Nat} {e : TypeId} {xs ys : List Value} (hl : xs.length = k) (h : w.ownsRow base e 1 (.slice (some ⟨g, 0, none⟩) (k + ys.length) cap) (k + ys.length) (xs ++ ys)) (hc : c2 = cap) : w.ownsRow base e 1 (.slice (some ⟨g, 0, none⟩) k c2) k xs := by
  subst hc
  rcases h.2 with ⟨e1, _⟩ | ⟨g', cap', cur, e1, hb, hh, hnc, hcm, hcs, ht⟩
  · cases e1
  · simp only [Value.slice.injEq, Option.some.injEq, Addr.mk.injEq, and_true, true_and] at e1
    obtain ⟨rfl, rfl⟩ := e1
    refine ⟨by omega, .inr ⟨g, c2, cur, rfl, hb, hh, by omega, hcm, hcs, ?_⟩⟩
    have := congrArg (List.take k) ht
    rw [List.take_take, Nat.mul_one, Nat.min_eq_left (by omega)] at this
    rw [Nat.mul_one, this, ← hl]
    exact List.take_left
/-- 'append(v, y, y)', the two in a new block: where they lie, and that v reads as it did -/
theorem run_push2 (w : World) (base : Nat) (ty : TypeId) (ro : Option Addr) (k rc : Nat) (zs : List Int) (y : Int) (g0 : Nat) (hown : w.ownsRow base 3 1 (.slice ro k rc) k (cellsZ zs)) (hc0 : w.cell? ⟨g0, 0, none⟩ = some (.int .i64 y)) (hc1 : w.cell? ⟨g0, 1, none⟩ = some (.int .i64 y)) (hk : k ≤ 1000) (hbase : base ≤ w.heap.size) :
    ∃ g' c' w', (Builtin.append_ #[54, 54] ty #[.slice ro k rc, .slice (some ⟨g0, 0, none⟩) 2 2]).run Try.prog w = .ok (.slice (some ⟨g', 0, none⟩) (k + 2) c') w' ∧ w'.cell? ⟨g', k, none⟩ = some (.int .i64 y) ∧ w'.cell? ⟨g', k + 1, none⟩ = some (.int .i64 y) ∧ k + 2 ≤ c' ∧ c' ≤ 9223372036854775807
      ∧ w'.ownsRow base 3 1 (.slice ro k rc) k (cellsZ zs) ∧ w.grownBy w' (Value.slice ro k rc).ownBlock ∧ ((Value.slice ro k rc).ownBlock = some g' ∨ w.heap.size ≤ g') := by
  obtain ⟨i, hi, hz0, hz1, hz2⟩ := info_parts Try.infoInt
  have hxl := hown.1
  have hnews : ∀ j u, ([.int .i64 y, .int .i64 y] : List Value)[j]? = some u → w.cell? ((⟨g0, 0, none⟩ : Addr).add j) = some u := by
    intro j u hj
    match j, hj with
    | 0, hj => simp at hj; subst hj; simpa [Addr.add] using hc0
    | 1, hj => simp at hj; subst hj; simpa [Addr.add] using hc1
  have h1 : ∀ u ∈ ([.int .i64 y, .int .i64 y] : List Value), u.oneCell' = true := by
    intro u hu; simp at hu; subst hu; rfl
  have hlast : ∀ (W : World) (g' c' : Nat), W.ownsRow base 3 1 (.slice (some ⟨g', 0, none⟩) (k + 2) c') (k + 2) (cellsZ zs ++ [.int .i64 y, .int .i64 y]) → W.cell? ⟨g', k, none⟩ = some (.int .i64 y) ∧ W.cell? ⟨g', k + 1, none⟩ = some (.int .i64 y) := by
    intro W g' c' hW
    have hl : (cellsZ zs).length = k := by omega
    constructor
    · rw [hW.cellAt k (by omega), List.getElem?_append_right (by omega), hl, Nat.sub_self]; rfl
    · rw [hW.cellAt (k + 1) (by omega), List.getElem?_append_right (by omega), hl, show k + 1 - k = 1 from by omega]; rfl
  obtain ⟨v', w', hr, h2, h3, h4⟩ := run_append_own (P := Try.prog) w base 54 ty 3 i (.int .i64 0) 1 8 Try.underlying54 hi hz0 hz1 hz2 rfl (by decide) (.slice ro k rc) k (cellsZ zs) hown ⟨g0, 0, none⟩ 2 2 [.int .i64 y, .int .i64 y] rfl hnews h1 (by unfold maxLen; omega) (by omega) hbase
  rcases hown.2 with ⟨e, rfl⟩ | ⟨g, cap, cur, e, hbg, hg, hnc, hcm, hcs, htake⟩
  · rcases h2.2 with ⟨e2, h0⟩ | ⟨g', c', cur', rfl, hb', hh', hn', hm', _⟩
    · omega
    · obtain ⟨l1, l2⟩ := hlast w' g' c' h2
      simp only [Value.slice.injEq] at e
      obtain ⟨rfl, _, rfl⟩ := e
      refine ⟨g', c', w', hr, l1, l2, hn', hm', ⟨hxl, .inl ⟨rfl, rfl⟩⟩, h3, .inr ?_⟩
      apply Classical.byContradiction
      intro hlt
      have hold := h3.block g' (by omega) (by simp [Value.ownBlock])
      have hr' := run_append_nil (P := Try.prog) w 54 ty 3 i (.int .i64 0) Try.underlying54 hi hz0 ⟨g0, 0, none⟩ 2 2 [.int .i64 y, .int .i64 y] (by rw [hz1]; rfl) hnews (by omega) (by omega) (by rw [hz2]; omega)
      rw [hr'] at hr
      simp only [Result.ok.injEq, Value.slice.injEq, Option.some.injEq, Addr.mk.injEq, and_true] at hr
      omega
  · simp only [Value.slice.injEq, true_and] at e
    obtain ⟨rfl, rfl⟩ := e
    by_cases hroom : k + 2 ≤ rc
    · have hr' := run_append_room (P := Try.prog) w 54 ty 3 i Try.underlying54 hi g k rc cur hg ⟨g0, 0, none⟩ 2 2 [.int .i64 y, .int .i64 y] (by rw [hz1]; rfl) hnews h1 hroom (by rw [hz1, hcs]; simp; omega)
      rw [hr'] at hr
      simp only [Result.ok.injEq] at hr
      obtain ⟨rfl, rfl⟩ := hr
      obtain ⟨l1, l2⟩ := hlast _ g rc h2
      exact ⟨g, rc, _, hr', l1, l2, hroom, hcm, owns_prefix (ys := [.int .i64 y, .int .i64 y]) (by omega) h2 rfl, h3, .inl rfl⟩
    · have hr' := run_append_grow (P := Try.prog) w 54 ty 3 i (.int .i64 0) Try.underlying54 hi hz0 ⟨g, 0, none⟩ k rc (cellsZ zs) (by rw [hz1]; exact hxl) (hown.cells rfl) ⟨g0, 0, none⟩ 2 2 [.int .i64 y, .int .i64 y] (by rw [hz1]; rfl) hnews (by omega) (by omega) (growslice_fits (by omega) (by rw [hz2]; omega))
      rw [hr'] at hr
      simp only [Result.ok.injEq] at hr
      obtain ⟨rfl, rfl⟩ := hr
      obtain ⟨l1, l2⟩ := hlast _ _ _ h2
      have hcm2 : (grownCap w (k + 2) rc 3) ≤ maxLen := grownCap_le_maxLen w (k + 2) rc 3 (by unfold maxLen; omega)
      have hge2 := grownCap_ge w (k + 2) rc 3
      exact ⟨w.heap.size, _, _, hr', l1, l2, hge2, hcm2, owns_frame hown (fun q hq => by cases hq; exact Below.heap_alloc w.drew _ g (hown.lt g rfl).2), h3, .inr (Nat.le_refl _)⟩
theorem wp_push2 {ops : Array Oper} {rest : List Oper} {o : Oper} {a : Act} {Q : Exit → Act → World → Prop} (W0 w : World) (B base : Nat) (hgd : o.guard = none) (s x : Operand)
    (ho : o.op = .call { callee := .builtin .append, args := #[s, x], argTypes := #[54, 54] }) (ro : Option Addr) (k rc : Nat) (zs : List Int) (y : Int) (g0 : Nat) (hs : a.eval s = .slice ro k rc) (hx : a.eval x = .slice (some ⟨g0, 0, none⟩) 2 2)
    (hown : w.ownsRow base 3 1 (.slice ro k rc) k (cellsZ zs)) (hc0 : w.cell? ⟨g0, 0, none⟩ = some (.int .i64 y)) (hc1 : w.cell? ⟨g0, 1, none⟩ = some (.int .i64 y)) (hk : k ≤ 1000) (hbase : base ≤ w.heap.size) (hbel : Below B W0 w) (hB : B ≤ base)
    (h : ∀ g' c' w', w'.cell? ⟨g', k, none⟩ = some (.int .i64 y) → w'.cell? ⟨g', k + 1, none⟩ = some (.int .i64 y) → k + 2 ≤ c' → c' ≤ 9223372036854775807 → w'.ownsRow base 3 1 (.slice ro k rc) k (cellsZ zs) → w.grownBy w' (Value.slice ro k rc).ownBlock → ((Value.slice ro k rc).ownBlock = some g' ∨ w.heap.size ≤ g') → Below B W0 w' →
      wpList Try.prog ops Q rest (a.put o.dst (.slice (some ⟨g', 0, none⟩) (k + 2) c')) w') : wpList Try.prog ops Q (o :: rest) a w := by
  obtain ⟨g', c', w', hr, l1, l2, l3, l4, h2, h3, h4⟩ := run_push2 w base o.type ro k rc zs y g0 hown hc0 hc1 hk hbase
  refine wpList_plain hgd fun _ hK => ?_
  unfold Oper.wp execOp
  simp only [ho, resolve, invoke, builtin, Sem.run_bind, Sem.run_pure, Result.andThen_ok, List.map_toArray, List.map_cons, List.map_nil, hs, hx, hr]
  refine hK _ _ (h g' c' w' l1 l2 l3 l4 h2 h3 h4 (hbel.grown h3 (by omega) ?_))
  intro q hq
  have := hown.lt q hq
  omega
/-- 'append(nil, x...)': a new slice of the same numbers -/
theorem wp_copyN {ops : Array Oper} {rest : List Oper} {o : Oper} {a : Act} {Q : Exit → Act → World → Prop} (w0 W : World) (hgd : o.guard = none) (s x : Operand)
    (ho : o.op = .call { callee := .builtin .append, args := #[s, x], argTypes := #[54, 54] }) (hbel : Below w0.heap.size w0 W)
    (hs : a.eval s = .slice none 0 0) (ao : Option Addr) (m c : Nat) (zs : List Int) (hx : a.eval x = .slice ao m c) (hR : RdZ W ao m c zs) (hm : m ≤ 1000)
    (h : ∀ a' c' w', w'.ownsRow W.heap.size 3 1 (.slice a' m c') m (cellsZ zs) → Below W.heap.size W w' → Below w0.heap.size w0 w' → wpList Try.prog ops Q rest (a.put o.dst (.slice a' m c')) w') : wpList Try.prog ops Q (o :: rest) a W := by
  obtain ⟨i0, hi, hz0, hz1, hz2⟩ := info_parts Try.infoInt
  have hown := World.ownsRow_nil W W.heap.size 3 1
  cases ao with
  | none =>
    have hc0 := hR.isnil rfl
    have hl := hR.lecap
    obtain rfl : c = 0 := hc0
    obtain rfl : m = 0 := by omega
    have hz : zs = [] := List.length_eq_zero_iff.1 hR.eqlen
    subst hz
    refine wpList_append_own_none hgd s x 54 ho W.heap.size 3 i0 1 Try.underlying54 hi _ 0 [] hs hown hx ?_
    exact h _ _ _ hown (Below.refl _ _) hbel
  | some ad =>
    refine wpList_append_own _ hgd s x 54 ho W.heap.size 3 i0 (.int .i64 0) 1 8 Try.underlying54 hi hz0 hz1 hz2 rfl (by decide) _ 0 [] hs hown ad m c (cellsZ zs) hx (by simp [hR.eqlen]) ?_ (ints_oneCell _ _) (by unfold maxLen; omega) (by omega) (Nat.le_refl _) ?_
    · intro j u hj
      rw [List.getElem?_map] at hj
      by_cases hjl : j < zs.length
      · rw [List.getElem?_eq_getElem hjl] at hj
        simp only [Option.map_some, Option.some.injEq] at hj
        subst hj
        obtain ⟨b, off, e, h1⟩ := hR.cell j (by rw [← hR.eqlen]; exact hjl)
        simp only [Option.some.injEq] at e
        subst e
        rw [List.getD_eq_getElem?_getD, List.getElem?_eq_getElem hjl] at h1
        rw [Go.WideShapes.add_plain]
        exact h1
      · rw [List.getElem?_eq_none (by omega)] at hj
        simp at hj
    · intro v' w' h2 h3 h4
      rw [List.nil_append, Nat.zero_add] at h2
      obtain ⟨ro, cr, rfl⟩ := owns_slice h2
      exact h _ _ w' h2 ((Below.refl _ _).grown h3 (Nat.le_refl _) (fun k e => by cases e)) (hbel.grown h3 hbel.size (fun k e => by cases e))
end Go.Proofs.Ytholafecbmhhhaa.Dg
