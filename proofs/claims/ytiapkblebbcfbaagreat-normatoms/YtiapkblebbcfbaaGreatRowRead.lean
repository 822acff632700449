/- A slice of numbers of 64 bits as its list; Total over it; a copy made by append. -/
import Derived.Test.YtiapkblebbcfbaaGreatTotal
import Derived.Laws.AppendOwnNone
namespace Go.Proofs.YtiapkblebbcfbaaGreat.Chk
open Go.RowKit
set_option linter.unusedVariables false

theorem Tryz.info2 : (Tryz.prog.info? 2).map (fun i => (i.zero, i.size, i.bytes)) = some (some (.int .i64 0), 1, 8) := by kernel_rfl

/-- the value v is a slice that reads as the numbers zs -/
def Row (w : World) (v : Value) (zs : List Int) : Prop :=
  ∃ ao cap, v = .slice ao zs.length cap ∧ zs.length ≤ maxLen ∧ (0 < zs.length → ∃ b off, ao = some ⟨b, off, none⟩ ∧ ∀ i, i < zs.length → w.cell? ⟨b, off + i, none⟩ = some (.int .i64 (zs.getD i 0))) ∧ ∀ z ∈ zs, (Lit.int .i64 z).wf = true

theorem total_at (v : Value) (zs : List Int) (w : World) (h : Row w v zs) :
    Calls Tryz.prog 44 #[v] w fun e w' => e = .returned (.tuple #[.int .i64 (outT (tot zs)), .int .i64 (errT (tot zs))]) ∧ w = w' := by
  obtain ⟨ao, cap, rfl, hm, hc, hw⟩ := h
  by_cases h0 : 0 < zs.length
  · obtain ⟨b, off, rfl, hc'⟩ := hc h0
    exact (total_row b off zs cap w hm hc' hw).mono fun e w' ⟨h1, h2⟩ => ⟨h1, h2.symm⟩
  · have e : zs = [] := List.length_eq_zero_iff.1 (by omega)
    subst e
    exact (total_none ao cap w).mono fun e w' ⟨h1, h2⟩ => ⟨h1, h2.symm⟩

theorem row_of_owns {w : World} {base : Nat} {v : Value} {n : Nat} {zs : List Int} (h : w.ownsRow base 2 1 v n (zs.map (Value.int .i64))) (hw : ∀ z ∈ zs, (Lit.int .i64 z).wf = true) : Row w v zs := by
  have h' := h
  obtain ⟨hl, hv⟩ := h'
  simp only [List.length_map, Nat.mul_one] at hl
  subst hl
  rcases hv with ⟨rfl, hn⟩ | ⟨g, cap, cur, rfl, hg, hh, hnc, hcm, hcs, hx⟩
  · refine ⟨none, 0, by rw [hn], by rw [hn]; exact Nat.zero_le _, fun h => absurd h (by omega), hw⟩
  · refine ⟨some ⟨g, 0, none⟩, cap, rfl, Nat.le_trans hnc hcm, fun _ => ⟨g, 0, rfl, fun i hi => ?_⟩, hw⟩
    rw [Nat.zero_add, h.cellAt i (by omega), List.getElem?_map, List.getElem?_eq_getElem hi]
    simp [List.getD_eq_getElem?_getD, List.getElem?_eq_getElem hi]

/-- 'append([]int64{}, x...)', x not nil: a new slice of the same numbers; nothing old has turned. -/
theorem wp_copy {ops : Array Oper} {rest : List Oper} {o : Oper} {a : Act} {Q : Exit → Act → World → Prop} (w0 W : World) (hgd : o.guard = none) (s x : Operand)
    (ho : o.op = .call { callee := .builtin .append, args := #[s, x], argTypes := #[27, 27] }) (hbel : Below w0.heap.size w0 W)
    (hs : a.eval s = .slice (some ⟨W.heap.size, 0, none⟩) 0 0) (ad : Addr) (m c : Nat) (zs : List Int) (hx : a.eval x = .slice (some ad) m c) (hl : zs.length = m)
    (hc : ∀ j, j < m → W.cell? (ad.add j) = some (.int .i64 (zs.getD j 0))) (hw : ∀ z ∈ zs, (Lit.int .i64 z).wf = true) (hm : m * 8 ≤ 140737488351232)
    (h : ∀ v' w', Row w' v' zs → Below w0.heap.size w0 w' → wpList Tryz.prog ops Q rest (a.put o.dst v') w') : wpList Tryz.prog ops Q (o :: rest) a (W.alloc (.cells #[] 2)) := by
  obtain ⟨i0, hi, hz0, hz1, hz2⟩ := info_parts Tryz.info2
  have hown := World.ownsRow_made (base := w0.heap.size) (e := 2) (size := 1) W #[] 0 hbel.size (Nat.zero_le _) (by simp)
  refine wpList_append_own _ hgd s x 27 ho w0.heap.size 2 i0 (.int .i64 0) 1 8 Tryz.underlying27 hi hz0 hz1 hz2 rfl (by decide) _ 0 [] hs hown ad m c (zs.map (Value.int .i64)) hx (by simp [hl]) ?_ (ints_oneCell _ _) (by unfold maxLen; omega) (by omega) ?_ ?_
  · intro j u hj
    rw [List.getElem?_map] at hj
    by_cases hjl : j < zs.length
    · rw [List.getElem?_eq_getElem hjl] at hj
      simp only [Option.map_some, Option.some.injEq] at hj
      subst hj
      have h1 := hc j (by omega)
      rw [List.getD_eq_getElem?_getD, List.getElem?_eq_getElem hjl] at h1
      rw [World.cell?_of_block (Below.heap_alloc _ _ _ (World.block_lt_of_cell? _ _ h1))]
      exact h1
    · rw [List.getElem?_eq_none (by omega)] at hj
      simp at hj
  · rw [World.size_alloc]; have := hbel.size; omega
  · intro v' w' h2 h3 h4
    rw [List.nil_append] at h2
    refine h v' w' (row_of_owns h2 hw) ?_
    refine (hbel.alloc hbel.size _).grown h3 (by rw [World.size_alloc]; have := hbel.size; omega) ?_
    intro k hk
    simp only [Value.ownBlock, Option.some.injEq] at hk
    have := hbel.size
    omega

/-- the same, x nil -/
theorem wp_copy_nil {ops : Array Oper} {rest : List Oper} {o : Oper} {a : Act} {Q : Exit → Act → World → Prop} (w0 W : World) (hgd : o.guard = none) (s x : Operand)
    (ho : o.op = .call { callee := .builtin .append, args := #[s, x], argTypes := #[27, 27] }) (hbel : Below w0.heap.size w0 W)
    (hs : a.eval s = .slice (some ⟨W.heap.size, 0, none⟩) 0 0) (hx : a.eval x = .slice none 0 0)
    (h : ∀ v' w', Row w' v' [] → Below w0.heap.size w0 w' → wpList Tryz.prog ops Q rest (a.put o.dst v') w') : wpList Tryz.prog ops Q (o :: rest) a (W.alloc (.cells #[] 2)) := by
  obtain ⟨i0, hi, hz0, hz1, hz2⟩ := info_parts Tryz.info2
  have hown := World.ownsRow_made (base := w0.heap.size) (e := 2) (size := 1) W #[] 0 hbel.size (Nat.zero_le _) (by simp)
  refine wpList_append_own_none hgd s x 27 ho w0.heap.size 2 i0 1 Tryz.underlying27 hi _ 0 [] hs hown hx ?_
  exact h _ _ (row_of_owns (zs := []) (by simpa using hown) (by simp)) (hbel.alloc hbel.size _)
end Go.Proofs.YtiapkblebbcfbaaGreat.Chk
