/- What a law is handed as a tree, read as a tree. -/
import Derived.Test.YtiapkblebbcfbaaGreatTrB
import Derived.ChangeArms
import Derived.DataReads
namespace Go.Proofs.YtiapkblebbcfbaaGreat.Gl
open Go.RowKit
set_option linter.unusedVariables false

theorem cell_lt6 {w : World} {b o : Nat} {v : Value} (h : w.cell? ⟨b, o, none⟩ = some v) : b < w.heap.size := by
  by_cases hb : b < w.heap.size
  · exact hb
  · have : w.heap[b]? = none := Array.getElem?_eq_none (by omega)
    simp [World.cell?, this] at h
theorem cells_four {w : World} {a : Addr} {cs : List Value} (h : w.cells? 0 a 4 = some cs) :
    ∃ g of c0 c1 c2 c3, a = ⟨g, of, none⟩ ∧ g < w.heap.size ∧ cs = [c0, c1, c2, c3] ∧ w.cell? ⟨g, of, none⟩ = some c0 ∧ w.cell? ⟨g, of + 1, none⟩ = some c1 ∧ w.cell? ⟨g, of + 2, none⟩ = some c2 ∧ w.cell? ⟨g, of + 3, none⟩ = some c3 := by
  unfold World.cells? at h
  rw [if_pos (Nat.zero_le _)] at h
  obtain ⟨b, of, sp⟩ := a
  cases k0 : w.cell? (Addr.add ⟨b, of, sp⟩ 0) with
  | none => simp [List.range_succ, k0] at h
  | some c0 =>
    have hsp : sp = none := by simpa [Addr.add] using World.cell?_spot k0
    subst hsp
    cases k1 : w.cell? (Addr.add ⟨b, of, none⟩ 1) with
    | none => simp [List.range_succ, k0, k1] at h
    | some c1 =>
      cases k2 : w.cell? (Addr.add ⟨b, of, none⟩ 2) with
      | none => simp [List.range_succ, k0, k1, k2] at h
      | some c2 =>
        cases k3 : w.cell? (Addr.add ⟨b, of, none⟩ 3) with
        | none => simp [List.range_succ, k0, k1, k2, k3] at h
        | some c3 =>
          simp [List.range_succ, k0, k1, k2, k3] at h
          simp only [Addr.add] at k0 k1 k2 k3
          exact ⟨b, of, c0, c1, c2, c3, rfl, cell_lt6 k0, h.symm, k0, k1, k2, k3⟩
theorem cells_five {w : World} {a : Addr} {cs : List Value} (h : w.cells? 0 a 5 = some cs) :
    ∃ g of c0 c1 c2 c3 c4, a = ⟨g, of, none⟩ ∧ g < w.heap.size ∧ cs = [c0, c1, c2, c3, c4] ∧ w.cell? ⟨g, of, none⟩ = some c0 ∧ w.cell? ⟨g, of + 1, none⟩ = some c1 ∧ w.cell? ⟨g, of + 2, none⟩ = some c2 ∧ w.cell? ⟨g, of + 3, none⟩ = some c3 ∧ w.cell? ⟨g, of + 4, none⟩ = some c4 := by
  unfold World.cells? at h
  rw [if_pos (Nat.zero_le _)] at h
  obtain ⟨b, of, sp⟩ := a
  cases k0 : w.cell? (Addr.add ⟨b, of, sp⟩ 0) with
  | none => simp [List.range_succ, k0] at h
  | some c0 =>
    have hsp : sp = none := by simpa [Addr.add] using World.cell?_spot k0
    subst hsp
    cases k1 : w.cell? (Addr.add ⟨b, of, none⟩ 1) with
    | none => simp [List.range_succ, k0, k1] at h
    | some c1 =>
      cases k2 : w.cell? (Addr.add ⟨b, of, none⟩ 2) with
      | none => simp [List.range_succ, k0, k1, k2] at h
      | some c2 =>
        cases k3 : w.cell? (Addr.add ⟨b, of, none⟩ 3) with
        | none => simp [List.range_succ, k0, k1, k2, k3] at h
        | some c3 =>
          cases k4 : w.cell? (Addr.add ⟨b, of, none⟩ 4) with
          | none => simp [List.range_succ, k0, k1, k2, k3, k4] at h
          | some c4 =>
            simp [List.range_succ, k0, k1, k2, k3, k4] at h
            simp only [Addr.add] at k0 k1 k2 k3 k4
            exact ⟨b, of, c0, c1, c2, c3, c4, rfl, cell_lt6 k0, h.symm, k0, k1, k2, k3, k4⟩
theorem i64_of {z : Int} (h : (Lit.int .i64 z).wf = true) : I64 z := by
  simp [Lit.wf, IntKind.min, IntKind.max, IntKind.signed, IntKind.bits] at h
  omega
theorem sz_of {n : Nat} (h : n ≤ maxLen) : Sz n := by simpa [maxLen, Sz] using h
theorem list_tm {W : World} {a : Addr} {len : Nat} (h : ∀ i, i < len → ∃ t g of c0 c1 c2 c3, a.add (i * 4) = ⟨g, of, none⟩ ∧ g < W.heap.size ∧ W.cell? ⟨g, of, none⟩ = some c0 ∧ W.cell? ⟨g, of + 1, none⟩ = some c1 ∧ W.cell? ⟨g, of + 2, none⟩ = some c2 ∧ W.cell? ⟨g, of + 3, none⟩ = some c3 ∧ RdT W t c0 c1 c2 c3) :
    ∀ k j, j + k = len → ∃ l : List Tm, l.length = k ∧ RdTL W l (some a) j := by
  intro k
  induction k with
  | zero => intro j _; exact ⟨[], rfl, by rw [RdTL]; trivial⟩
  | succ k ih =>
    intro j hj
    obtain ⟨l, hl, hr⟩ := ih (j + 1) (by omega)
    obtain ⟨t, g, of, c0, c1, c2, c3, he, hg, k0, k1, k2, k3, ht⟩ := h j (by omega)
    refine ⟨t :: l, by simp [hl], ?_⟩
    rw [RdTL]
    obtain ⟨b, o, rfl⟩ : ∃ b o, a = ⟨b, o, none⟩ := by
      obtain ⟨_, b, o, _, _, _, _, e, _⟩ := h 0 (by omega)
      exact ⟨b, o, by simpa [Addr.add] using e⟩
    rw [Go.WideShapes.add_plain] at he
    simp only [Addr.mk.injEq] at he
    obtain ⟨rfl, rfl, -⟩ := he
    exact ⟨⟨b, o, c0, c1, c2, c3, rfl, hg, k0, k1, k2, k3, ht⟩, hr⟩
theorem list_fm {W : World} {a : Addr} {len : Nat} (h : ∀ i, i < len → ∃ t g of c0 c1 c2 c3 c4, a.add (i * 5) = ⟨g, of, none⟩ ∧ g < W.heap.size ∧ W.cell? ⟨g, of, none⟩ = some c0 ∧ W.cell? ⟨g, of + 1, none⟩ = some c1 ∧ W.cell? ⟨g, of + 2, none⟩ = some c2 ∧ W.cell? ⟨g, of + 3, none⟩ = some c3 ∧ W.cell? ⟨g, of + 4, none⟩ = some c4 ∧ RdF W t c0 c1 c2 c3 c4) :
    ∀ k j, j + k = len → ∃ l : List Fm, l.length = k ∧ RdFL W l (some a) j := by
  intro k
  induction k with
  | zero => intro j _; exact ⟨[], rfl, by rw [RdFL]; trivial⟩
  | succ k ih =>
    intro j hj
    obtain ⟨l, hl, hr⟩ := ih (j + 1) (by omega)
    obtain ⟨t, g, of, c0, c1, c2, c3, c4, he, hg, k0, k1, k2, k3, k4, ht⟩ := h j (by omega)
    refine ⟨t :: l, by simp [hl], ?_⟩
    rw [RdFL]
    obtain ⟨b, o, rfl⟩ : ∃ b o, a = ⟨b, o, none⟩ := by
      obtain ⟨_, b, o, _, _, _, _, _, e, _⟩ := h 0 (by omega)
      exact ⟨b, o, by simpa [Addr.add] using e⟩
    rw [Go.WideShapes.add_plain] at he
    simp only [Addr.mk.injEq] at he
    obtain ⟨rfl, rfl, -⟩ := he
    exact ⟨⟨b, o, c0, c1, c2, c3, c4, rfl, hg, k0, k1, k2, k3, k4, ht⟩, hr⟩
theorem list4 {α : Type} {l : List α} (h : l.length = 4) : ∃ a b c d, l = [a, b, c, d] := by
  match l, h with
  | [a, b, c, d], _ => exact ⟨a, b, c, d, rfl⟩
theorem list5 {α : Type} {l : List α} (h : l.length = 5) : ∃ a b c d e, l = [a, b, c, d, e] := by
  match l, h with
  | [a, b, c, d, e], _ => exact ⟨a, b, c, d, e, rfl⟩
section
variable {H : Type} {enc : TypeId × Value → H} {W : World} {sp : Nat → Bool} {held : Bool}
theorem trod_tm : ∀ n cs x, DataW.trod enc Tryz.prog W 0 sp held n 25 cs = some x → ∃ t c0 c1 c2 c3, cs = [c0, c1, c2, c3] ∧ RdT W t c0 c1 c2 c3 := by
  intro n
  induction n using Nat.strongRecOn with
  | _ n ih =>
    intro cs x h
    obtain ⟨xs, m, rfl, rfl, hl, hxl, hf⟩ := DataW.trod_struct Tryz.underlying25 h
    rw [show Tryz.prog.cellsOf 25 = 4 by kernel_rfl] at hl
    obtain ⟨c0, c1, c2, c3, rfl⟩ := list4 hl
    obtain ⟨x0, x1, x2, x3, rfl⟩ := list4 (hxl.trans rfl)
    have f0 := hf 0 _ rfl
    have f1 := hf 1 _ rfl
    have f2 := hf 2 _ rfl
    have f3 := hf 3 _ rfl
    replace f0 : DataW.trod enc Tryz.prog W 0 sp held m 22 [c0] = some x0 := by
      have e := f0
      change DataW.trod enc Tryz.prog W 0 sp held m 22 (List.take (Tryz.prog.cellsOf 22) (List.drop 0 [c0, c1, c2, c3])) = some x0 at e
      rw [show Tryz.prog.cellsOf 22 = 1 by kernel_rfl] at e
      exact e
    replace f1 : DataW.trod enc Tryz.prog W 0 sp held m 2 [c1] = some x1 := by
      have e := f1
      change DataW.trod enc Tryz.prog W 0 sp held m 2 (List.take (Tryz.prog.cellsOf 2) (List.drop 1 [c0, c1, c2, c3])) = some x1 at e
      rw [show Tryz.prog.cellsOf 2 = 1 by kernel_rfl] at e
      exact e
    replace f2 : DataW.trod enc Tryz.prog W 0 sp held m 9 [c2] = some x2 := by
      have e := f2
      change DataW.trod enc Tryz.prog W 0 sp held m 9 (List.take (Tryz.prog.cellsOf 9) (List.drop 2 [c0, c1, c2, c3])) = some x2 at e
      rw [show Tryz.prog.cellsOf 9 = 1 by kernel_rfl] at e
      exact e
    replace f3 : DataW.trod enc Tryz.prog W 0 sp held m 23 [c3] = some x3 := by
      have e := f3
      change DataW.trod enc Tryz.prog W 0 sp held m 23 (List.take (Tryz.prog.cellsOf 23) (List.drop 3 [c0, c1, c2, c3])) = some x3 at e
      rw [show Tryz.prog.cellsOf 23 = 1 by kernel_rfl] at e
      exact e
    obtain ⟨o, e0, -, w0⟩ := DataW.trod_int Tryz.underlying22 f0
    obtain ⟨z, e1, -, w1⟩ := DataW.trod_int Tryz.underlying2 f1
    obtain ⟨s, e2, -, w2⟩ := DataW.trod_string Tryz.underlying9 f2
    simp at e0 e1 e2
    subst e0; subst e1; subst e2
    rcases DataW.trod_slice Tryz.underlying23 f3 with ⟨e3, -⟩ | ⟨a, len, cap, el, re, m', rfl, e3, -, -, hlc, hcm, hel, hE, -⟩
    · simp at e3
      subst e3
      refine ⟨.mk o z s [], _, _, _, _, rfl, ?_⟩
      rw [RdT]
      exact ⟨rfl, rfl, rfl, ⟨i64_of w0, i64_of w1, sz_of w2⟩, none, 0, rfl, Nat.le_refl _, by simp [Sz], by rw [RdTL]; trivial⟩
    · simp at e3
      subst e3
      rw [show Tryz.prog.cellsOf 25 = 4 by kernel_rfl] at hE
      have key : ∀ i, i < len → ∃ t g of c0 c1 c2 c3, a.add (i * 4) = ⟨g, of, none⟩ ∧ g < W.heap.size ∧ W.cell? ⟨g, of, none⟩ = some c0 ∧ W.cell? ⟨g, of + 1, none⟩ = some c1 ∧ W.cell? ⟨g, of + 2, none⟩ = some c2 ∧ W.cell? ⟨g, of + 3, none⟩ = some c3 ∧ RdT W t c0 c1 c2 c3 := by
        intro i hi
        have hE := hE i hi
        rw [List.getElem?_eq_getElem (by omega : i < el.length), Option.bind_eq_some_iff] at hE
        obtain ⟨cs, hcs, htr⟩ := hE
        obtain ⟨g, of, d0, d1, d2, d3, ha, hg, rfl, k0, k1, k2, k3⟩ := cells_four hcs
        obtain ⟨t, c0, c1, c2, c3, he, ht⟩ := ih m' (by omega) _ _ htr
        simp at he
        obtain ⟨rfl, rfl, rfl, rfl⟩ := he
        exact ⟨t, g, of, _, _, _, _, ha, hg, k0, k1, k2, k3, ht⟩
      obtain ⟨l, hll, hr⟩ := list_tm key len 0 (by omega)
      refine ⟨.mk o z s l, _, _, _, _, rfl, ?_⟩
      rw [RdT]
      exact ⟨rfl, rfl, rfl, ⟨i64_of w0, i64_of w1, sz_of w2⟩, some a, cap, by rw [hll], by omega, sz_of hcm, hr⟩
theorem trod_tms {n : Nat} {c : Value} {x : DataW H × List MemPlace} (h : DataW.trod enc Tryz.prog W 0 sp held n 23 [c] = some x) : ∃ (l : List Tm) (ao : Option Addr) (cap : Nat), c = .slice ao l.length cap ∧ l.length ≤ cap ∧ Sz cap ∧ RdTL W l ao 0 := by
  rcases DataW.trod_slice Tryz.underlying23 h with ⟨e3, -⟩ | ⟨a, len, cap, el, re, m', rfl, e3, -, -, hlc, hcm, hel, hE, -⟩
  · simp at e3
    subst e3
    exact ⟨[], none, 0, rfl, Nat.le_refl _, by simp [Sz], by rw [RdTL]; trivial⟩
  · simp at e3
    subst e3
    rw [show Tryz.prog.cellsOf 25 = 4 by kernel_rfl] at hE
    have key : ∀ i, i < len → ∃ t g of c0 c1 c2 c3, a.add (i * 4) = ⟨g, of, none⟩ ∧ g < W.heap.size ∧ W.cell? ⟨g, of, none⟩ = some c0 ∧ W.cell? ⟨g, of + 1, none⟩ = some c1 ∧ W.cell? ⟨g, of + 2, none⟩ = some c2 ∧ W.cell? ⟨g, of + 3, none⟩ = some c3 ∧ RdT W t c0 c1 c2 c3 := by
      intro i hi
      have hE := hE i hi
      rw [List.getElem?_eq_getElem (by omega : i < el.length), Option.bind_eq_some_iff] at hE
      obtain ⟨cs, hcs, htr⟩ := hE
      obtain ⟨g, of, d0, d1, d2, d3, ha, hg, rfl, k0, k1, k2, k3⟩ := cells_four hcs
      obtain ⟨t, c0, c1, c2, c3, he, ht⟩ := trod_tm m' _ _ htr
      simp at he
      obtain ⟨rfl, rfl, rfl, rfl⟩ := he
      exact ⟨t, g, of, _, _, _, _, ha, hg, k0, k1, k2, k3, ht⟩
    obtain ⟨l, hll, hr⟩ := list_tm key len 0 (by omega)
    exact ⟨l, some a, cap, by rw [hll], by omega, sz_of hcm, hr⟩
theorem trod_fm : ∀ n cs x, DataW.trod enc Tryz.prog W 0 sp held n 41 cs = some x → ∃ f c0 c1 c2 c3 c4, cs = [c0, c1, c2, c3, c4] ∧ RdF W f c0 c1 c2 c3 c4 := by
  intro n
  induction n using Nat.strongRecOn with
  | _ n ih =>
    intro cs x h
    obtain ⟨xs, m, rfl, rfl, hl, hxl, hf⟩ := DataW.trod_struct Tryz.underlying41 h
    rw [show Tryz.prog.cellsOf 41 = 5 by kernel_rfl] at hl
    obtain ⟨c0, c1, c2, c3, c4, rfl⟩ := list5 hl
    obtain ⟨x0, x1, x2, x3, x4, rfl⟩ := list5 (hxl.trans rfl)
    have f0 := hf 0 _ rfl
    have f1 := hf 1 _ rfl
    have f2 := hf 2 _ rfl
    have f3 := hf 3 _ rfl
    have f4 := hf 4 _ rfl
    replace f0 : DataW.trod enc Tryz.prog W 0 sp held m 38 [c0] = some x0 := by
      have e := f0
      change DataW.trod enc Tryz.prog W 0 sp held m 38 (List.take (Tryz.prog.cellsOf 38) (List.drop 0 [c0, c1, c2, c3, c4])) = some x0 at e
      rw [show Tryz.prog.cellsOf 38 = 1 by kernel_rfl] at e
      exact e
    replace f1 : DataW.trod enc Tryz.prog W 0 sp held m 9 [c1] = some x1 := by
      have e := f1
      change DataW.trod enc Tryz.prog W 0 sp held m 9 (List.take (Tryz.prog.cellsOf 9) (List.drop 1 [c0, c1, c2, c3, c4])) = some x1 at e
      rw [show Tryz.prog.cellsOf 9 = 1 by kernel_rfl] at e
      exact e
    replace f2 : DataW.trod enc Tryz.prog W 0 sp held m 2 [c2] = some x2 := by
      have e := f2
      change DataW.trod enc Tryz.prog W 0 sp held m 2 (List.take (Tryz.prog.cellsOf 2) (List.drop 2 [c0, c1, c2, c3, c4])) = some x2 at e
      rw [show Tryz.prog.cellsOf 2 = 1 by kernel_rfl] at e
      exact e
    replace f3 : DataW.trod enc Tryz.prog W 0 sp held m 23 [c3] = some x3 := by
      have e := f3
      change DataW.trod enc Tryz.prog W 0 sp held m 23 (List.take (Tryz.prog.cellsOf 23) (List.drop 3 [c0, c1, c2, c3, c4])) = some x3 at e
      rw [show Tryz.prog.cellsOf 23 = 1 by kernel_rfl] at e
      exact e
    replace f4 : DataW.trod enc Tryz.prog W 0 sp held m 39 [c4] = some x4 := by
      have e := f4
      change DataW.trod enc Tryz.prog W 0 sp held m 39 (List.take (Tryz.prog.cellsOf 39) (List.drop 4 [c0, c1, c2, c3, c4])) = some x4 at e
      rw [show Tryz.prog.cellsOf 39 = 1 by kernel_rfl] at e
      exact e
    obtain ⟨o, e0, -, w0⟩ := DataW.trod_int Tryz.underlying38 f0
    obtain ⟨s, e1, -, w1⟩ := DataW.trod_string Tryz.underlying9 f1
    obtain ⟨z, e2, -, w2⟩ := DataW.trod_int Tryz.underlying2 f2
    simp at e0 e1 e2
    subst e0; subst e1; subst e2
    obtain ⟨tl, ao, tc, e3, ht1, ht2, ht3⟩ := trod_tms f3
    subst e3
    rcases DataW.trod_slice Tryz.underlying39 f4 with ⟨e3, -⟩ | ⟨a, len, cap, el, re, m', rfl, e3, -, -, hlc, hcm, hel, hE, -⟩
    · simp at e3
      subst e3
      refine ⟨.mk o s z tl [], _, _, _, _, _, rfl, ?_⟩
      rw [RdF]
      exact ⟨rfl, rfl, rfl, ⟨i64_of w0, i64_of w2, sz_of w1⟩, ⟨ao, tc, rfl, ht1, ht2, ht3⟩, none, 0, rfl, Nat.le_refl _, by simp [Sz], by rw [RdFL]; trivial⟩
    · simp at e3
      subst e3
      rw [show Tryz.prog.cellsOf 41 = 5 by kernel_rfl] at hE
      have key : ∀ i, i < len → ∃ t g of c0 c1 c2 c3 c4, a.add (i * 5) = ⟨g, of, none⟩ ∧ g < W.heap.size ∧ W.cell? ⟨g, of, none⟩ = some c0 ∧ W.cell? ⟨g, of + 1, none⟩ = some c1 ∧ W.cell? ⟨g, of + 2, none⟩ = some c2 ∧ W.cell? ⟨g, of + 3, none⟩ = some c3 ∧ W.cell? ⟨g, of + 4, none⟩ = some c4 ∧ RdF W t c0 c1 c2 c3 c4 := by
        intro i hi
        have hE := hE i hi
        rw [List.getElem?_eq_getElem (by omega : i < el.length), Option.bind_eq_some_iff] at hE
        obtain ⟨cs, hcs, htr⟩ := hE
        obtain ⟨g, of, d0, d1, d2, d3, d4, ha, hg, rfl, k0, k1, k2, k3, k4⟩ := cells_five hcs
        obtain ⟨t, c0, c1, c2, c3, c4, he, ht⟩ := ih m' (by omega) _ _ htr
        simp at he
        obtain ⟨rfl, rfl, rfl, rfl, rfl⟩ := he
        exact ⟨t, g, of, _, _, _, _, _, ha, hg, k0, k1, k2, k3, k4, ht⟩
      obtain ⟨l, hll, hr⟩ := list_fm key len 0 (by omega)
      refine ⟨.mk o s z tl l, _, _, _, _, _, rfl, ?_⟩
      rw [RdF]
      exact ⟨rfl, rfl, rfl, ⟨i64_of w0, i64_of w2, sz_of w1⟩, ⟨ao, tc, rfl, ht1, ht2, ht3⟩, some a, cap, by rw [hll], by omega, sz_of hcm, hr⟩
set_option maxRecDepth 100000 in
/-- a formula that came in -/
theorem open_fm {base : Nat} {v : Value} {d : DataW H} {p : List MemPlace} (hv : Value.okWide Tryz.prog W .any base 41 v) (h : DataW.Trod enc Tryz.prog W 0 sp held 41 v d p) : ∃ f, FmV W f v := by
  unfold Value.okWide at hv
  rw [Tryz.underlying41] at hv
  obtain ⟨cs, rfl, -, -⟩ := hv
  obtain ⟨n, hn⟩ := h
  obtain ⟨f, c0, c1, c2, c3, c4, he, hr⟩ := trod_fm n _ _ hn
  refine ⟨f, c0, c1, c2, c3, c4, ?_, hr⟩
  have : cs.toList = [c0, c1, c2, c3, c4] := by simpa [Value.cells] using he
  rw [show cs = cs.toList.toArray by simp, this]
set_option maxRecDepth 100000 in
/-- a term that came in -/
theorem open_tm {base : Nat} {v : Value} {d : DataW H} {p : List MemPlace} (hv : Value.okWide Tryz.prog W .any base 25 v) (h : DataW.Trod enc Tryz.prog W 0 sp held 25 v d p) : ∃ t, TmV W t v := by
  unfold Value.okWide at hv
  rw [Tryz.underlying25] at hv
  obtain ⟨cs, rfl, -, -⟩ := hv
  obtain ⟨n, hn⟩ := h
  obtain ⟨f, c0, c1, c2, c3, he, hr⟩ := trod_tm n _ _ hn
  refine ⟨f, c0, c1, c2, c3, ?_, hr⟩
  have : cs.toList = [c0, c1, c2, c3] := by simpa [Value.cells] using he
  rw [show cs = cs.toList.toArray by simp, this]
end
end Go.Proofs.YtiapkblebbcfbaaGreat.Gl
