/- What a law is handed as a slice of numbers, read as a list. -/
import Derived.Test.YtiapkblebbcfbaaTrV
import Derived.Test.YtiapkblebbcfbaaNmP
namespace Go.Proofs.Ytiapkblebbcfbaa.Gl
open Go.RowKit
set_option linter.unusedVariables false

theorem cells_one {w : World} {a : Addr} {cs : List Value} (h : w.cells? 0 a 1 = some cs) : ∃ g of c0, a = ⟨g, of, none⟩ ∧ g < w.heap.size ∧ cs = [c0] ∧ w.cell? ⟨g, of, none⟩ = some c0 := by
  unfold World.cells? at h
  rw [if_pos (Nat.zero_le _)] at h
  obtain ⟨b, of, sp⟩ := a
  cases k0 : w.cell? (Addr.add ⟨b, of, sp⟩ 0) with
  | none => simp [List.range_succ, k0] at h
  | some c0 =>
    have hsp : sp = none := by simpa [Addr.add] using World.cell?_spot k0
    subst hsp
    simp [List.range_succ, k0] at h
    simp only [Addr.add] at k0
    exact ⟨b, of, c0, rfl, cell_lt6 k0, h.symm, k0⟩
theorem zs_row {W : World} {a : Addr} {len cap : Nat} (hlc : len ≤ cap) (hc : cap ≤ 9223372036854775807) (h : ∀ i, i < len → ∃ z g of, a.add (i * 1) = ⟨g, of, none⟩ ∧ W.cell? ⟨g, of, none⟩ = some (.int .i64 z) ∧ I64 z) : ∃ l : List Int, l.length = len ∧ RdZ W (some a) len cap l ∧ ∀ z ∈ l, I64 z := by
  have key : ∀ k, k ≤ len → ∃ l : List Int, l.length = k ∧ (∀ i, i < k → ∃ g of, a.add (i * 1) = ⟨g, of, none⟩ ∧ W.cell? ⟨g, of, none⟩ = some (.int .i64 (l.getD i 0))) ∧ ∀ z ∈ l, I64 z := by
    intro k
    induction k with
    | zero => intro _; exact ⟨[], rfl, fun i hi => absurd hi (by omega), fun z hz => by cases hz⟩
    | succ k ih =>
      intro hk
      obtain ⟨l, hl, hr, hz⟩ := ih (by omega)
      obtain ⟨z, g, of, he, hcell, hi⟩ := h k (by omega)
      refine ⟨l ++ [z], by simp [hl], fun i hi' => ?_, fun y hy => ?_⟩
      · rcases Nat.lt_or_ge i k with g1 | g1
        · obtain ⟨g, of, e1, e2⟩ := hr i g1
          refine ⟨g, of, e1, ?_⟩
          rw [List.getD_eq_getElem?_getD, List.getElem?_append_left (by omega), ← List.getD_eq_getElem?_getD]
          exact e2
        · obtain rfl : i = k := by omega
          refine ⟨g, of, he, ?_⟩
          rw [List.getD_eq_getElem?_getD, List.getElem?_append_right (by omega), hl, Nat.sub_self]
          exact hcell
      · rcases List.mem_append.1 hy with h1 | h1
        · exact hz y h1
        · rw [List.mem_singleton] at h1; subst h1; exact hi
  obtain ⟨l, hl, hr, hz⟩ := key len (Nat.le_refl _)
  refine ⟨l, hl, ⟨hl, hlc, hc, (fun e => by cases e), fun i hi => ?_⟩, hz⟩
  obtain ⟨g, of, e1, e2⟩ := hr i hi
  obtain ⟨b, o, rfl⟩ : ∃ b o, a = ⟨b, o, none⟩ := by
    obtain ⟨g0, o0, e, _⟩ := hr 0 (by omega)
    exact ⟨g0, o0, by simpa [Addr.add] using e⟩
  rw [Go.WideShapes.add_plain] at e1
  simp only [Addr.mk.injEq] at e1
  obtain ⟨rfl, rfl, -⟩ := e1
  exact ⟨b, o, rfl, by rw [Nat.mul_one] at e2; exact e2⟩
section
variable {H : Type} {enc : TypeId × Value → H} {W : World} {sp : Nat → Bool} {held : Bool}
theorem trod_zs {n : Nat} {c : Value} {x : DataW H × List MemPlace} (h : DataW.trod enc Try.prog W 0 sp held n 24 [c] = some x) : ∃ (l : List Int) (ao : Option Addr) (cap : Nat), c = .slice ao l.length cap ∧ RdZ W ao l.length cap l ∧ (∀ z ∈ l, I64 z) ∧ cap ≤ maxLen := by
  rcases DataW.trod_slice Try.underlying24 h with ⟨e3, -⟩ | ⟨a, len, cap, el, re, m', rfl, e3, -, -, hlc, hcm, hel, hE, -⟩
  · simp at e3
    subst e3
    exact ⟨[], none, 0, rfl, rdz_nil W, (fun z hz => by cases hz), Nat.zero_le _⟩
  · simp at e3
    subst e3
    rw [show Try.prog.cellsOf 2 = 1 by kernel_rfl] at hE
    have key : ∀ i, i < len → ∃ z g of, a.add (i * 1) = ⟨g, of, none⟩ ∧ W.cell? ⟨g, of, none⟩ = some (.int .i64 z) ∧ I64 z := by
      intro i hi
      have hE := hE i hi
      rw [List.getElem?_eq_getElem (by omega : i < el.length), Option.bind_eq_some_iff] at hE
      obtain ⟨cs, hcs, htr⟩ := hE
      obtain ⟨g, of, d0, ha, hg, rfl, k0⟩ := cells_one hcs
      obtain ⟨z, e1, -, w1⟩ := DataW.trod_int Try.underlying2 htr
      simp at e1
      subst e1
      exact ⟨z, g, of, ha, k0, i64_of w1⟩
    obtain ⟨l, hll, hr, hz⟩ := zs_row hlc (sz_of hcm) key
    subst hll
    exact ⟨l, some a, cap, rfl, hr, hz, hcm⟩
set_option maxRecDepth 100000 in
/-- a slice of numbers that came in -/
theorem open_zs {base : Nat} {v : Value} {d : DataW H} {p : List MemPlace} (hv : Value.okWide Try.prog W .any base 24 v) (h : DataW.Trod enc Try.prog W 0 sp held 24 v d p) : ∃ (l : List Int) (ao : Option Addr) (cap : Nat), v = .slice ao l.length cap ∧ RdZ W ao l.length cap l ∧ (∀ z ∈ l, I64 z) ∧ cap ≤ maxLen := by
  unfold Value.okWide at hv
  rw [Try.underlying24] at hv
  obtain ⟨n, hn⟩ := h
  cases v with
  | slice ao len cap => exact trod_zs hn
  | _ => exact hv.elim
end
end Go.Proofs.Ytiapkblebbcfbaa.Gl
