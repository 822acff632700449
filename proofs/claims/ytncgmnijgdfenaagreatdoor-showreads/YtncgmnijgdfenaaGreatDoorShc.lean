/- What a law is handed as a tree, read as a tree. -/
import Derived.Test.YtncgmnijgdfenaaGreatDoorTrB
import Derived.ChangeArms
import Derived.DataReads
import Derived.Test.YtncgmnijgdfenaaGreatDoorShQ
namespace Go.Proofs.YtncgmnijgdfenaaGreatDoor.Gl
open Go.RowKit
set_option linter.unusedVariables false

theorem cell_lt6 {w : World} {b o : Nat} {v : Value} (h : w.cell? ⟨b, o, none⟩ = some v) : b < w.heap.size := by
  by_cases hb : b < w.heap.size
  · exact hb
  · have : w.heap[b]? = none := Array.getElem?_eq_none (by omega)
    simp [World.cell?, this] at h
theorem cells_four {w : World} {a : Addr} {cs : List Value} (h : w.cells? 0 a 4 = some cs) :
    ∃ g of c0 c1 c2 c3, a = ⟨g, of, none⟩ ∧ g < w.heap.size ∧ cs = [c0, c1, c2, c3] ∧ w.cell? ⟨g, of, none⟩ = some c0 ∧ w.cell? ⟨g, of + 1, none⟩ = some c1 ∧ w.cell? ⟨g, of + 2, none⟩ = some c2 ∧ w.cell? ⟨g, of + 3, none⟩ = some c3 := by
  unfold World.cells? at h
  rw [if_pos (Nat.zero_le _)] at h
  obtain ⟨b, of, sp⟩ := a
  cases k0 : w.cell? (Addr.add ⟨b, of, sp⟩ 0) with
  | none => simp [List.range_succ, k0] at h
  | some c0 =>
    have hsp : sp = none := by simpa [Addr.add] using World.cell?_spot k0
    subst hsp
    cases k1 : w.cell? (Addr.add ⟨b, of, none⟩ 1) with
    | none => simp [List.range_succ, k0, k1] at h
    | some c1 =>
      cases k2 : w.cell? (Addr.add ⟨b, of, none⟩ 2) with
      | none => simp [List.range_succ, k0, k1, k2] at h
      | some c2 =>
        cases k3 : w.cell? (Addr.add ⟨b, of, none⟩ 3) with
        | none => simp [List.range_succ, k0, k1, k2, k3] at h
        | some c3 =>
          simp [List.range_succ, k0, k1, k2, k3] at h
          simp only [Addr.add] at k0 k1 k2 k3
          exact ⟨b, of, c0, c1, c2, c3, rfl, cell_lt6 k0, h.symm, k0, k1, k2, k3⟩
theorem cells_five {w : World} {a : Addr} {cs : List Value} (h : w.cells? 0 a 5 = some cs) :
    ∃ g of c0 c1 c2 c3 c4, a = ⟨g, of, none⟩ ∧ g < w.heap.size ∧ cs = [c0, c1, c2, c3, c4] ∧ w.cell? ⟨g, of, none⟩ = some c0 ∧ w.cell? ⟨g, of + 1, none⟩ = some c1 ∧ w.cell? ⟨g, of + 2, none⟩ = some c2 ∧ w.cell? ⟨g, of + 3, none⟩ = some c3 ∧ w.cell? ⟨g, of + 4, none⟩ = some c4 := by
  unfold World.cells? at h
  rw [if_pos (Nat.zero_le _)] at h
  obtain ⟨b, of, sp⟩ := a
  cases k0 : w.cell? (Addr.add ⟨b, of, sp⟩ 0) with
  | none => simp [List.range_succ, k0] at h
  | some c0 =>
    have hsp : sp = none := by simpa [Addr.add] using World.cell?_spot k0
    subst hsp
    cases k1 : w.cell? (Addr.add ⟨b, of, none⟩ 1) with
    | none => simp [List.range_succ, k0, k1] at h
    | some c1 =>
      cases k2 : w.cell? (Addr.add ⟨b, of, none⟩ 2) with
      | none => simp [List.range_succ, k0, k1, k2] at h
      | some c2 =>
        cases k3 : w.cell? (Addr.add ⟨b, of, none⟩ 3) with
        | none => simp [List.range_succ, k0, k1, k2, k3] at h
        | some c3 =>
          cases k4 : w.cell? (Addr.add ⟨b, of, none⟩ 4) with
          | none => simp [List.range_succ, k0, k1, k2, k3, k4] at h
          | some c4 =>
            simp [List.range_succ, k0, k1, k2, k3, k4] at h
            simp only [Addr.add] at k0 k1 k2 k3 k4
            exact ⟨b, of, c0, c1, c2, c3, c4, rfl, cell_lt6 k0, h.symm, k0, k1, k2, k3, k4⟩
theorem i64_of {z : Int} (h : (Lit.int .i64 z).wf = true) : I64 z := by
  simp [Lit.wf, IntKind.min, IntKind.max, IntKind.signed, IntKind.bits] at h
  omega
theorem sz_of {n : Nat} (h : n ≤ maxLen) : Sz n := by simpa [maxLen, Sz] using h
theorem list_tm {W : World} {a : Addr} {len : Nat} (h : ∀ i, i < len → ∃ t g of c0 c1 c2 c3, a.add (i * 4) = ⟨g, of, none⟩ ∧ g < W.heap.size ∧ W.cell? ⟨g, of, none⟩ = some c0 ∧ W.cell? ⟨g, of + 1, none⟩ = some c1 ∧ W.cell? ⟨g, of + 2, none⟩ = some c2 ∧ W.cell? ⟨g, of + 3, none⟩ = some c3 ∧ RdT W t c0 c1 c2 c3) :
    ∀ k j, j + k = len → ∃ l : List Tm, l.length = k ∧ RdTL W l (some a) j := by
  intro k
  induction k with
  | zero => intro j _; exact ⟨[], rfl, by rw [RdTL]; trivial⟩
  | succ k ih =>
    intro j hj
    obtain ⟨l, hl, hr⟩ := ih (j + 1) (by omega)
    obtain ⟨t, g, of, c0, c1, c2, c3, he, hg, k0, k1, k2, k3, ht⟩ := h j (by omega)
    refine ⟨t :: l, by simp [hl], ?_⟩
    rw [RdTL]
    obtain ⟨b, o, rfl⟩ : ∃ b o, a = ⟨b, o, none⟩ := by
      obtain ⟨_, b, o, _, _, _, _, e, _⟩ := h 0 (by omega)
      exact ⟨b, o, by simpa [Addr.add] using e⟩
    rw [Go.WideShapes.add_plain] at he
    simp only [Addr.mk.injEq] at he
    obtain ⟨rfl, rfl, -⟩ := he
    exact ⟨⟨b, o, c0, c1, c2, c3, rfl, hg, k0, k1, k2, k3, ht⟩, hr⟩
theorem list_fm {W : World} {a : Addr} {len : Nat} (h : ∀ i, i < len → ∃ t g of c0 c1 c2 c3 c4, a.add (i * 5) = ⟨g, of, none⟩ ∧ g < W.heap.size ∧ W.cell? ⟨g, of, none⟩ = some c0 ∧ W.cell? ⟨g, of + 1, none⟩ = some c1 ∧ W.cell? ⟨g, of + 2, none⟩ = some c2 ∧ W.cell? ⟨g, of + 3, none⟩ = some c3 ∧ W.cell? ⟨g, of + 4, none⟩ = some c4 ∧ RdF W t c0 c1 c2 c3 c4) :
    ∀ k j, j + k = len → ∃ l : List Fm, l.length = k ∧ RdFL W l (some a) j := by
  intro k
  induction k with
  | zero => intro j _; exact ⟨[], rfl, by rw [RdFL]; trivial⟩
  | succ k ih =>
    intro j hj
    obtain ⟨l, hl, hr⟩ := ih (j + 1) (by omega)
    obtain ⟨t, g, of, c0, c1, c2, c3, c4, he, hg, k0, k1, k2, k3, k4, ht⟩ := h j (by omega)
    refine ⟨t :: l, by simp [hl], ?_⟩
    rw [RdFL]
    obtain ⟨b, o, rfl⟩ : ∃ b o, a = ⟨b, o, none⟩ := by
      obtain ⟨_, b, o, _, _, _, _, _, e, _⟩ := h 0 (by omega)
      exact ⟨b, o, by simpa [Addr.add] using e⟩
    rw [Go.WideShapes.add_plain] at he
    simp only [Addr.mk.injEq] at he
    obtain ⟨rfl, rfl, -⟩ := he
    exact ⟨⟨b, o, c0, c1, c2, c3, c4, rfl, hg, k0, k1, k2, k3, k4, ht⟩, hr⟩
theorem list4 {α : Type} {l : List α} (h : l.length = 4) : ∃ a b c d, l = [a, b, c, d] := by
  match l, h with
  | [a, b, c, d], _ => exact ⟨a, b, c, d, rfl⟩
theorem list5 {α : Type} {l : List α} (h : l.length = 5) : ∃ a b c d e, l = [a, b, c, d, e] := by
  match l, h with
  | [a, b, c, d, e], _ => exact ⟨a, b, c, d, e, rfl⟩
section
variable {H : Type} {enc : TypeId × Value → H} {W : World} {sp : Nat → Bool} {held : Bool}
theorem trod_tm : ∀ n cs x, DataW.trod enc Tryz.prog W 0 sp held n 42 cs = some x → ∃ t c0 c1 c2 c3, cs = [c0, c1, c2, c3] ∧ RdT W t c0 c1 c2 c3 := by
  intro n
  induction n using Nat.strongRecOn with
  | _ n ih =>
    intro cs x h
    obtain ⟨xs, m, rfl, rfl, hl, hxl, hf⟩ := DataW.trod_struct Tryz.underlying42 h
    rw [show Tryz.prog.cellsOf 42 = 4 by kernel_rfl] at hl
    obtain ⟨c0, c1, c2, c3, rfl⟩ := list4 hl
    obtain ⟨x0, x1, x2, x3, rfl⟩ := list4 (hxl.trans rfl)
    have f0 := hf 0 _ rfl
    have f1 := hf 1 _ rfl
    have f2 := hf 2 _ rfl
    have f3 := hf 3 _ rfl
    replace f0 : DataW.trod enc Tryz.prog W 0 sp held m 40 [c0] = some x0 := by
      have e := f0
      change DataW.trod enc Tryz.prog W 0 sp held m 40 (List.take (Tryz.prog.cellsOf 40) (List.drop 0 [c0, c1, c2, c3])) = some x0 at e
      rw [show Tryz.prog.cellsOf 40 = 1 by kernel_rfl] at e
      exact e
    replace f1 : DataW.trod enc Tryz.prog W 0 sp held m 2 [c1] = some x1 := by
      have e := f1
      change DataW.trod enc Tryz.prog W 0 sp held m 2 (List.take (Tryz.prog.cellsOf 2) (List.drop 1 [c0, c1, c2, c3])) = some x1 at e
      rw [show Tryz.prog.cellsOf 2 = 1 by kernel_rfl] at e
      exact e
    replace f2 : DataW.trod enc Tryz.prog W 0 sp held m 9 [c2] = some x2 := by
      have e := f2
      change DataW.trod enc Tryz.prog W 0 sp held m 9 (List.take (Tryz.prog.cellsOf 9) (List.drop 2 [c0, c1, c2, c3])) = some x2 at e
      rw [show Tryz.prog.cellsOf 9 = 1 by kernel_rfl] at e
      exact e
    replace f3 : DataW.trod enc Tryz.prog W 0 sp held m 23 [c3] = some x3 := by
      have e := f3
      change DataW.trod enc Tryz.prog W 0 sp held m 23 (List.take (Tryz.prog.cellsOf 23) (List.drop 3 [c0, c1, c2, c3])) = some x3 at e
      rw [show Tryz.prog.cellsOf 23 = 1 by kernel_rfl] at e
      exact e
    obtain ⟨o, e0, -, w0⟩ := DataW.trod_int Tryz.underlying40 f0
    obtain ⟨z, e1, -, w1⟩ := DataW.trod_int Tryz.underlying2 f1
    obtain ⟨s, e2, -, w2⟩ := DataW.trod_string Tryz.underlying9 f2
    simp at e0 e1 e2
    subst e0; subst e1; subst e2
    rcases DataW.trod_slice Tryz.underlying23 f3 with ⟨e3, -⟩ | ⟨a, len, cap, el, re, m', rfl, e3, -, -, hlc, hcm, hel, hE, -⟩
    · simp at e3
      subst e3
      refine ⟨.mk o z s [], _, _, _, _, rfl, ?_⟩
      rw [RdT]
      exact ⟨rfl, rfl, rfl, ⟨i64_of w0, i64_of w1, sz_of w2⟩, none, 0, rfl, Nat.le_refl _, by simp [Sz], by rw [RdTL]; trivial⟩
    · simp at e3
      subst e3
      rw [show Tryz.prog.cellsOf 42 = 4 by kernel_rfl] at hE
      have key : ∀ i, i < len → ∃ t g of c0 c1 c2 c3, a.add (i * 4) = ⟨g, of, none⟩ ∧ g < W.heap.size ∧ W.cell? ⟨g, of, none⟩ = some c0 ∧ W.cell? ⟨g, of + 1, none⟩ = some c1 ∧ W.cell? ⟨g, of + 2, none⟩ = some c2 ∧ W.cell? ⟨g, of + 3, none⟩ = some c3 ∧ RdT W t c0 c1 c2 c3 := by
        intro i hi
        have hE := hE i hi
        rw [List.getElem?_eq_getElem (by omega : i < el.length), Option.bind_eq_some_iff] at hE
        obtain ⟨cs, hcs, htr⟩ := hE
        obtain ⟨g, of, d0, d1, d2, d3, ha, hg, rfl, k0, k1, k2, k3⟩ := cells_four hcs
        obtain ⟨t, c0, c1, c2, c3, he, ht⟩ := ih m' (by omega) _ _ htr
        simp at he
        obtain ⟨rfl, rfl, rfl, rfl⟩ := he
        exact ⟨t, g, of, _, _, _, _, ha, hg, k0, k1, k2, k3, ht⟩
      obtain ⟨l, hll, hr⟩ := list_tm key len 0 (by omega)
      refine ⟨.mk o z s l, _, _, _, _, rfl, ?_⟩
      rw [RdT]
      exact ⟨rfl, rfl, rfl, ⟨i64_of w0, i64_of w1, sz_of w2⟩, some a, cap, by rw [hll], by omega, sz_of hcm, hr⟩
theorem trod_tms {n : Nat} {c : Value} {x : DataW H × List MemPlace} (h : DataW.trod enc Tryz.prog W 0 sp held n 23 [c] = some x) : ∃ (l : List Tm) (ao : Option Addr) (cap : Nat), c = .slice ao l.length cap ∧ l.length ≤ cap ∧ Sz cap ∧ RdTL W l ao 0 := by
  rcases DataW.trod_slice Tryz.underlying23 h with ⟨e3, -⟩ | ⟨a, len, cap, el, re, m', rfl, e3, -, -, hlc, hcm, hel, hE, -⟩
  · simp at e3
    subst e3
    exact ⟨[], none, 0, rfl, Nat.le_refl _, by simp [Sz], by rw [RdTL]; trivial⟩
  · simp at e3
    subst e3
    rw [show Tryz.prog.cellsOf 42 = 4 by kernel_rfl] at hE
    have key : ∀ i, i < len → ∃ t g of c0 c1 c2 c3, a.add (i * 4) = ⟨g, of, none⟩ ∧ g < W.heap.size ∧ W.cell? ⟨g, of, none⟩ = some c0 ∧ W.cell? ⟨g, of + 1, none⟩ = some c1 ∧ W.cell? ⟨g, of + 2, none⟩ = some c2 ∧ W.cell? ⟨g, of + 3, none⟩ = some c3 ∧ RdT W t c0 c1 c2 c3 := by
      intro i hi
      have hE := hE i hi
      rw [List.getElem?_eq_getElem (by omega : i < el.length), Option.bind_eq_some_iff] at hE
      obtain ⟨cs, hcs, htr⟩ := hE
      obtain ⟨g, of, d0, d1, d2, d3, ha, hg, rfl, k0, k1, k2, k3⟩ := cells_four hcs
      obtain ⟨t, c0, c1, c2, c3, he, ht⟩ := trod_tm m' _ _ htr
      simp at he
      obtain ⟨rfl, rfl, rfl, rfl⟩ := he
      exact ⟨t, g, of, _, _, _, _, ha, hg, k0, k1, k2, k3, ht⟩
    obtain ⟨l, hll, hr⟩ := list_tm key len 0 (by omega)
    exact ⟨l, some a, cap, by rw [hll], by omega, sz_of hcm, hr⟩
theorem trod_fm : ∀ n cs x, DataW.trod enc Tryz.prog W 0 sp held n 26 cs = some x → ∃ f c0 c1 c2 c3 c4, cs = [c0, c1, c2, c3, c4] ∧ RdF W f c0 c1 c2 c3 c4 := by
  intro n
  induction n using Nat.strongRecOn with
  | _ n ih =>
    intro cs x h
    obtain ⟨xs, m, rfl, rfl, hl, hxl, hf⟩ := DataW.trod_struct Tryz.underlying26 h
    rw [show Tryz.prog.cellsOf 26 = 5 by kernel_rfl] at hl
    obtain ⟨c0, c1, c2, c3, c4, rfl⟩ := list5 hl
    obtain ⟨x0, x1, x2, x3, x4, rfl⟩ := list5 (hxl.trans rfl)
    have f0 := hf 0 _ rfl
    have f1 := hf 1 _ rfl
    have f2 := hf 2 _ rfl
    have f3 := hf 3 _ rfl
    have f4 := hf 4 _ rfl
    replace f0 : DataW.trod enc Tryz.prog W 0 sp held m 22 [c0] = some x0 := by
      have e := f0
      change DataW.trod enc Tryz.prog W 0 sp held m 22 (List.take (Tryz.prog.cellsOf 22) (List.drop 0 [c0, c1, c2, c3, c4])) = some x0 at e
      rw [show Tryz.prog.cellsOf 22 = 1 by kernel_rfl] at e
      exact e
    replace f1 : DataW.trod enc Tryz.prog W 0 sp held m 9 [c1] = some x1 := by
      have e := f1
      change DataW.trod enc Tryz.prog W 0 sp held m 9 (List.take (Tryz.prog.cellsOf 9) (List.drop 1 [c0, c1, c2, c3, c4])) = some x1 at e
      rw [show Tryz.prog.cellsOf 9 = 1 by kernel_rfl] at e
      exact e
    replace f2 : DataW.trod enc Tryz.prog W 0 sp held m 2 [c2] = some x2 := by
      have e := f2
      change DataW.trod enc Tryz.prog W 0 sp held m 2 (List.take (Tryz.prog.cellsOf 2) (List.drop 2 [c0, c1, c2, c3, c4])) = some x2 at e
      rw [show Tryz.prog.cellsOf 2 = 1 by kernel_rfl] at e
      exact e
    replace f3 : DataW.trod enc Tryz.prog W 0 sp held m 23 [c3] = some x3 := by
      have e := f3
      change DataW.trod enc Tryz.prog W 0 sp held m 23 (List.take (Tryz.prog.cellsOf 23) (List.drop 3 [c0, c1, c2, c3, c4])) = some x3 at e
      rw [show Tryz.prog.cellsOf 23 = 1 by kernel_rfl] at e
      exact e
    replace f4 : DataW.trod enc Tryz.prog W 0 sp held m 24 [c4] = some x4 := by
      have e := f4
      change DataW.trod enc Tryz.prog W 0 sp held m 24 (List.take (Tryz.prog.cellsOf 24) (List.drop 4 [c0, c1, c2, c3, c4])) = some x4 at e
      rw [show Tryz.prog.cellsOf 24 = 1 by kernel_rfl] at e
      exact e
    obtain ⟨o, e0, -, w0⟩ := DataW.trod_int Tryz.underlying22 f0
    obtain ⟨s, e1, -, w1⟩ := DataW.trod_string Tryz.underlying9 f1
    obtain ⟨z, e2, -, w2⟩ := DataW.trod_int Tryz.underlying2 f2
    simp at e0 e1 e2
    subst e0; subst e1; subst e2
    obtain ⟨tl, ao, tc, e3, ht1, ht2, ht3⟩ := trod_tms f3
    subst e3
    rcases DataW.trod_slice Tryz.underlying24 f4 with ⟨e3, -⟩ | ⟨a, len, cap, el, re, m', rfl, e3, -, -, hlc, hcm, hel, hE, -⟩
    · simp at e3
      subst e3
      refine ⟨.mk o s z tl [], _, _, _, _, _, rfl, ?_⟩
      rw [RdF]
      exact ⟨rfl, rfl, rfl, ⟨i64_of w0, i64_of w2, sz_of w1⟩, ⟨ao, tc, rfl, ht1, ht2, ht3⟩, none, 0, rfl, Nat.le_refl _, by simp [Sz], by rw [RdFL]; trivial⟩
    · simp at e3
      subst e3
      rw [show Tryz.prog.cellsOf 26 = 5 by kernel_rfl] at hE
      have key : ∀ i, i < len → ∃ t g of c0 c1 c2 c3 c4, a.add (i * 5) = ⟨g, of, none⟩ ∧ g < W.heap.size ∧ W.cell? ⟨g, of, none⟩ = some c0 ∧ W.cell? ⟨g, of + 1, none⟩ = some c1 ∧ W.cell? ⟨g, of + 2, none⟩ = some c2 ∧ W.cell? ⟨g, of + 3, none⟩ = some c3 ∧ W.cell? ⟨g, of + 4, none⟩ = some c4 ∧ RdF W t c0 c1 c2 c3 c4 := by
        intro i hi
        have hE := hE i hi
        rw [List.getElem?_eq_getElem (by omega : i < el.length), Option.bind_eq_some_iff] at hE
        obtain ⟨cs, hcs, htr⟩ := hE
        obtain ⟨g, of, d0, d1, d2, d3, d4, ha, hg, rfl, k0, k1, k2, k3, k4⟩ := cells_five hcs
        obtain ⟨t, c0, c1, c2, c3, c4, he, ht⟩ := ih m' (by omega) _ _ htr
        simp at he
        obtain ⟨rfl, rfl, rfl, rfl, rfl⟩ := he
        exact ⟨t, g, of, _, _, _, _, _, ha, hg, k0, k1, k2, k3, k4, ht⟩
      obtain ⟨l, hll, hr⟩ := list_fm key len 0 (by omega)
      refine ⟨.mk o s z tl l, _, _, _, _, _, rfl, ?_⟩
      rw [RdF]
      exact ⟨rfl, rfl, rfl, ⟨i64_of w0, i64_of w2, sz_of w1⟩, ⟨ao, tc, rfl, ht1, ht2, ht3⟩, some a, cap, by rw [hll], by omega, sz_of hcm, hr⟩
set_option maxRecDepth 100000 in
/-- a formula that came in -/
theorem open_fm {base : Nat} {v : Value} {d : DataW H} {p : List MemPlace} (hv : Value.okWide Tryz.prog W .any base 26 v) (h : DataW.Trod enc Tryz.prog W 0 sp held 26 v d p) : ∃ f, FmV W f v := by
  unfold Value.okWide at hv
  rw [Tryz.underlying26] at hv
  obtain ⟨cs, rfl, -, -⟩ := hv
  obtain ⟨n, hn⟩ := h
  obtain ⟨f, c0, c1, c2, c3, c4, he, hr⟩ := trod_fm n _ _ hn
  refine ⟨f, c0, c1, c2, c3, c4, ?_, hr⟩
  have : cs.toList = [c0, c1, c2, c3, c4] := by simpa [Value.cells] using he
  rw [show cs = cs.toList.toArray by simp, this]
set_option maxRecDepth 100000 in
/-- a term that came in -/
theorem open_tm {base : Nat} {v : Value} {d : DataW H} {p : List MemPlace} (hv : Value.okWide Tryz.prog W .any base 42 v) (h : DataW.Trod enc Tryz.prog W 0 sp held 42 v d p) : ∃ t, TmV W t v := by
  unfold Value.okWide at hv
  rw [Tryz.underlying42] at hv
  obtain ⟨cs, rfl, -, -⟩ := hv
  obtain ⟨n, hn⟩ := h
  obtain ⟨f, c0, c1, c2, c3, he, hr⟩ := trod_tm n _ _ hn
  refine ⟨f, c0, c1, c2, c3, ?_, hr⟩
  have : cs.toList = [c0, c1, c2, c3] := by simpa [Value.cells] using he
  rw [show cs = cs.toList.toArray by simp, this]
end
end Go.Proofs.YtncgmnijgdfenaaGreatDoor.Gl
/- Answers that the document fixes; ShowFormulas and ShowTerms. -/
namespace Go.Proofs.YtncgmnijgdfenaaGreatDoor.Gl
open Go Go.RowKit
set_option linter.unusedVariables false
set_option linter.unusedSimpArgs false

theorem nm_kx : nmB ⟨#[120]⟩ = true := by
  rw [nmB_iff]
  refine ⟨⟨1, ⟨by decide +kernel, fun k hk => ?_⟩, by decide, by decide, fun j hj => ?_⟩, by decide +kernel⟩
  · obtain rfl : k = 0 := by omega
    decide +kernel
  · obtain rfl : j = 0 := by omega
    exact ⟨by decide +kernel, by decide +kernel, by decide +kernel, fun _ => by decide +kernel⟩
abbrev x8F : Fm := .mk 7 ⟨#[120]⟩ 0 [] [.mk 9 emp 0 [.mk 1 0 ⟨#[120]⟩ [], .mk 0 10 emp []] []]
abbrev n8F : Fm := .mk 2 emp 0 [] []
theorem x8_chk : chk nmB x8F = 0 := by
  have hx := nm_kx
  simp [chk, meterF, meterFL, meterTL, meterT, St.node, wellF, wellT, wF, wT, hx]
theorem n8_chk : chk nmB n8F = 3 := by
  simp [chk, meterF, meterFL, meterTL, meterT, St.node, wellF, wellT, wF, wT]
theorem dec10 : dec 10 = ⟨#[49, 48]⟩ := by
  unfold dec
  rw [dec_ge (by decide), dec_lt (by decide)]
  rfl
theorem x8_text : shF x8F = ⟨#[101, 120, 32, 120, 46, 32, 120, 32, 60, 61, 32, 49, 48]⟩ := by
  apply tb_inj
  rw [tf_qu (.inl rfl), tf_rel (by decide) (by decide), tt_nam, tt_num]
  have e : dec (10 : Int).toNat = dec 10 := rfl
  rw [e, dec10]
  rfl
abbrev xTs : Array Value := #[.int .i64 1, .int .i64 0, .string ⟨#[120]⟩, .slice none 0 0, .int .i64 0, .int .i64 10, .string emp, .slice none 0 0]
theorem x8_fm (w : World) : FmV ((w.alloc (.cells xTs 42)).alloc (.cells #[.int .i64 9, .string emp, .int .i64 0, .slice (some ⟨w.heap.size, 0, none⟩) 2 2, .slice none 0 0] 26)) x8F (.agg #[.int .i64 7, .string ⟨#[120]⟩, .int .i64 0, .slice none 0 0, .slice (some ⟨w.heap.size + 1, 0, none⟩) 1 1]) := by
  have k1 : ∀ o, ((w.alloc (.cells xTs 42)).alloc (.cells #[.int .i64 9, .string emp, .int .i64 0, .slice (some ⟨w.heap.size, 0, none⟩) 2 2, .slice none 0 0] 26)).cell? ⟨w.heap.size, o, none⟩ = xTs[o]? := fun o => by
    rw [Lib.cell_of_heap ((heap_alloc_old _ _ (by simp)).trans (heap_alloc_new w _))]
  have k2 : ∀ o, ((w.alloc (.cells xTs 42)).alloc (.cells #[.int .i64 9, .string emp, .int .i64 0, .slice (some ⟨w.heap.size, 0, none⟩) 2 2, .slice none 0 0] 26)).cell? ⟨w.heap.size + 1, o, none⟩ = #[.int .i64 9, .string emp, .int .i64 0, .slice (some ⟨w.heap.size, 0, none⟩) 2 2, .slice none 0 0][o]? := fun o => by
    have := heap_alloc_new (w.alloc (.cells xTs 42)) (.cells #[.int .i64 9, .string emp, .int .i64 0, .slice (some ⟨w.heap.size, 0, none⟩) 2 2, .slice none 0 0] 26)
    rw [World.size_alloc] at this
    rw [Lib.cell_of_heap this]
  refine ⟨_, _, _, _, _, rfl, ?_⟩
  rw [RdF]
  refine ⟨rfl, rfl, rfl, ⟨by unfold I64; omega, by unfold I64; omega, by unfold Sz; decide⟩, ⟨none, 0, rfl, Nat.le_refl _, by unfold Sz; omega, by rw [RdTL]; trivial⟩, some ⟨w.heap.size + 1, 0, none⟩, 1, rfl, Nat.le_refl _, by unfold Sz; omega, ?_⟩
  rw [RdFL, RdFL]
  refine ⟨⟨w.heap.size + 1, 0, _, _, _, _, _, rfl, by simp, k2 0, k2 1, k2 2, k2 3, k2 4, ?_⟩, trivial⟩
  rw [RdF]
  refine ⟨rfl, rfl, rfl, ⟨by unfold I64; omega, by unfold I64; omega, by unfold Sz; decide⟩, ⟨some ⟨w.heap.size, 0, none⟩, 2, rfl, Nat.le_refl _, by unfold Sz; omega, ?_⟩, none, 0, rfl, Nat.le_refl _, by unfold Sz; omega, by rw [RdFL]; trivial⟩
  rw [RdTL, RdTL, RdTL]
  refine ⟨⟨w.heap.size, 0, _, _, _, _, rfl, by simp; omega, k1 0, k1 1, k1 2, k1 3, ?_⟩, ⟨w.heap.size, 0, _, _, _, _, rfl, by simp; omega, k1 4, k1 5, k1 6, k1 7, ?_⟩, trivial⟩
  · rw [RdT]
    exact ⟨rfl, rfl, rfl, ⟨by unfold I64; omega, by unfold I64; omega, by unfold Sz; decide⟩, none, 0, rfl, Nat.le_refl _, by unfold Sz; omega, by rw [RdTL]; trivial⟩
  · rw [RdT]
    exact ⟨rfl, rfl, rfl, ⟨by unfold I64; omega, by unfold I64; omega, by unfold Sz; decide⟩, none, 0, rfl, Nat.le_refl _, by unfold Sz; omega, by rw [RdTL]; trivial⟩
theorem n8_fm (w : World) : FmV w n8F (.agg #[.int .i64 2, .string emp, .int .i64 0, .slice none 0 0, .slice none 0 0]) := by
  refine ⟨_, _, _, _, _, rfl, ?_⟩
  rw [RdF]
  exact ⟨rfl, rfl, rfl, ⟨by unfold I64; omega, by unfold I64; omega, by unfold Sz; decide⟩, ⟨none, 0, rfl, Nat.le_refl _, by unfold Sz; omega, by rw [RdTL]; trivial⟩, none, 0, rfl, Nat.le_refl _, by unfold Sz; omega, by rw [RdFL]; trivial⟩
set_option maxRecDepth 100000 in
set_option maxHeartbeats 1000000 in
theorem fixed8_at (w : World) (hP : Pw w) : Calls Tryz.prog 7 #[] w fun e w' => e = .returned (.bool true) ∧ Below w.heap.size w w' := by
  have hB0 : Below w.heap.size w ((w.alloc (.cells xTs 42)).alloc (.cells #[.int .i64 9, .string emp, .int .i64 0, .slice (some ⟨w.heap.size, 0, none⟩) 2 2, .slice none 0 0] 26)) := ((Below.refl w.heap.size w).alloc (Nat.le_refl _) _).alloc (by simp) _
  have S1 := mkHid (fm_show _ x8F _ _ (x8_fm w) (Below.refl _ _) (hP.below hB0 hP.lt))
  rw [x8_chk, if_pos rfl, x8_text] at S1
  have S2 := mkHid (fun w1 (h : Pw w1) => fm_show w1 n8F _ w1 (n8_fm w1) (Below.refl _ _) h)
  rw [n8_chk, if_neg (by decide)] at S2
  have HP := mkHid hP
  have HB := mkHid hB0
  clear hP hB0
  go_enter Tryz.func7, Tryz.ntmps7
  go_wp2_with (fail)
  refine S1.out.mono ?_
  rintro e w2 ⟨rfl, hB2⟩
  have hBx := mkHid (HB.out.trans (hB2.mono HB.out.size))
  have S3 := mkHid (S2.out w2 (HP.out.below hBx.out HP.out.lt))
  clear hB2
  go_wp2_with (fail)
  refine S3.out.mono ?_
  rintro e w3 ⟨rfl, hB3⟩
  have hBz := mkHid (hBx.out.trans (hB3.mono hBx.out.size))
  clear hB3
  go_wp2
  go_ret
  exact ⟨rfl, hBz.out⟩
end Go.Proofs.YtncgmnijgdfenaaGreatDoor.Gl
