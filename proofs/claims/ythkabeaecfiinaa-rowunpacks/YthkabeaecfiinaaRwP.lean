/- What a law is handed as a slice of numbers, of cubes, read as a list. -/
import Derived.Test.YthkabeaecfiinaaRwA
import Derived.ChangeArms
import Derived.DataReads
import Derived.SizedLaws
namespace Go.Proofs.Ythkabeaecfiinaa.Ro
open Go.RowKit
set_option linter.unusedVariables false

theorem cell_ltR {w : World} {b o : Nat} {v : Value} (h : w.cell? ⟨b, o, none⟩ = some v) : b < w.heap.size := World.block_lt_of_cell? _ _ h
theorem cells_1 {w : World} {a : Addr} {cs : List Value} (h : w.cells? 0 a 1 = some cs) : ∃ g of c0, a = ⟨g, of, none⟩ ∧ g < w.heap.size ∧ cs = [c0] ∧ w.cell? ⟨g, of, none⟩ = some c0 := by
  unfold World.cells? at h
  rw [if_pos (Nat.zero_le _)] at h
  obtain ⟨b, of, sp⟩ := a
  cases k0 : w.cell? (Addr.add ⟨b, of, sp⟩ 0) with
  | none => simp [List.range_succ, k0] at h
  | some c0 =>
    have hsp : sp = none := by simpa [Addr.add] using World.cell?_spot k0
    subst hsp
    simp [List.range_succ, k0] at h
    simp only [Addr.add] at k0
    exact ⟨b, of, c0, rfl, cell_ltR k0, h.symm, k0⟩
theorem cells_3 {w : World} {a : Addr} {cs : List Value} (h : w.cells? 0 a 3 = some cs) :
    ∃ g of c0 c1 c2, a = ⟨g, of, none⟩ ∧ g < w.heap.size ∧ cs = [c0, c1, c2] ∧ w.cell? ⟨g, of, none⟩ = some c0 ∧ w.cell? ⟨g, of + 1, none⟩ = some c1 ∧ w.cell? ⟨g, of + 2, none⟩ = some c2 := by
  unfold World.cells? at h
  rw [if_pos (Nat.zero_le _)] at h
  obtain ⟨b, of, sp⟩ := a
  cases k0 : w.cell? (Addr.add ⟨b, of, sp⟩ 0) with
  | none => simp [List.range_succ, k0] at h
  | some c0 =>
    have hsp : sp = none := by simpa [Addr.add] using World.cell?_spot k0
    subst hsp
    cases k1 : w.cell? (Addr.add ⟨b, of, none⟩ 1) with
    | none => simp [List.range_succ, k0, k1] at h
    | some c1 =>
      cases k2 : w.cell? (Addr.add ⟨b, of, none⟩ 2) with
      | none => simp [List.range_succ, k0, k1, k2] at h
      | some c2 =>
        simp [List.range_succ, k0, k1, k2] at h
        simp only [Addr.add] at k0 k1 k2
        exact ⟨b, of, c0, c1, c2, rfl, cell_ltR k0, h.symm, k0, k1, k2⟩
abbrev I64 (z : Int) : Prop := -9223372036854775808 ≤ z ∧ z ≤ 9223372036854775807
theorem i64_of {z : Int} (h : (Lit.int .i64 z).wf = true) : I64 z := by
  simp [Lit.wf, IntKind.min, IntKind.max, IntKind.signed, IntKind.bits] at h
  omega
theorem cap_of {n : Nat} (h : n ≤ maxLen) : n ≤ 9223372036854775807 := by simpa [maxLen] using h
theorem zs_row {W : World} {a : Addr} {len cap : Nat} (hlc : len ≤ cap) (hc : cap ≤ 9223372036854775807) (h : ∀ i, i < len → ∃ z g of, a.add (i * 1) = ⟨g, of, none⟩ ∧ W.cell? ⟨g, of, none⟩ = some (.int .i64 z) ∧ I64 z) : ∃ l : List Int, l.length = len ∧ RdZ W (some a) len cap l ∧ ∀ z ∈ l, I64 z := by
  have key : ∀ k, k ≤ len → ∃ l : List Int, l.length = k ∧ (∀ i, i < k → ∃ g of, a.add (i * 1) = ⟨g, of, none⟩ ∧ W.cell? ⟨g, of, none⟩ = some (.int .i64 (l.getD i 0))) ∧ ∀ z ∈ l, I64 z := by
    intro k
    induction k with
    | zero => intro _; exact ⟨[], rfl, fun i hi => absurd hi (by omega), fun z hz => by cases hz⟩
    | succ k ih =>
      intro hk
      obtain ⟨l, hl, hr, hz⟩ := ih (by omega)
      obtain ⟨z, g, of, he, hcell, hi⟩ := h k (by omega)
      refine ⟨l ++ [z], by simp [hl], fun i hi' => ?_, fun y hy => ?_⟩
      · rcases Nat.lt_or_ge i k with g1 | g1
        · obtain ⟨g, of, e1, e2⟩ := hr i g1
          refine ⟨g, of, e1, ?_⟩
          rw [List.getD_eq_getElem?_getD, List.getElem?_append_left (by omega), ← List.getD_eq_getElem?_getD]
          exact e2
        · obtain rfl : i = k := by omega
          refine ⟨g, of, he, ?_⟩
          rw [List.getD_eq_getElem?_getD, List.getElem?_append_right (by omega), hl, Nat.sub_self]
          exact hcell
      · rcases List.mem_append.1 hy with h1 | h1
        · exact hz y h1
        · rw [List.mem_singleton] at h1; subst h1; exact hi
  obtain ⟨l, hl, hr, hz⟩ := key len (Nat.le_refl _)
  refine ⟨l, hl, ⟨hl, hlc, hc, (fun e => by cases e), fun i hi => ?_⟩, hz⟩
  obtain ⟨g, of, e1, e2⟩ := hr i hi
  obtain ⟨b, o, rfl⟩ : ∃ b o, a = ⟨b, o, none⟩ := by
    obtain ⟨g0, o0, e, _⟩ := hr 0 (by omega)
    exact ⟨g0, o0, by simpa [Addr.add] using e⟩
  rw [Go.WideShapes.add_plain] at e1
  simp only [Addr.mk.injEq] at e1
  obtain ⟨rfl, rfl, -⟩ := e1
  exact ⟨b, o, rfl, by rw [Nat.mul_one] at e2; exact e2⟩
theorem cs_row {W : World} {a : Addr} {len cap : Nat} (hlc : len ≤ cap) (hc : cap ≤ 9223372036854775807) (h : ∀ i, i < len → ∃ (x : Cb) (g of : Nat), a.add (i * 3) = ⟨g, of, none⟩ ∧ g < W.heap.size ∧ W.cell? ⟨g, of, none⟩ = some (.int .i64 x.m) ∧ W.cell? ⟨g, of + 1, none⟩ = some (.int .i64 x.b) ∧ W.cell? ⟨g, of + 2, none⟩ = some (.int .i64 x.t)) : ∃ l : List Cb, l.length = len ∧ RdC W (some a) len cap l := by
  have key : ∀ k, k ≤ len → ∃ l : List Cb, l.length = k ∧ (∀ i, i < k → ∃ (g of : Nat), a.add (i * 3) = ⟨g, of, none⟩ ∧ g < W.heap.size ∧ W.cell? ⟨g, of, none⟩ = some (.int .i64 (l.getD i default).m) ∧ W.cell? ⟨g, of + 1, none⟩ = some (.int .i64 (l.getD i default).b) ∧ W.cell? ⟨g, of + 2, none⟩ = some (.int .i64 (l.getD i default).t)) := by
    intro k
    induction k with
    | zero => intro _; exact ⟨[], rfl, fun i hi => absurd hi (by omega)⟩
    | succ k ih =>
      intro hk
      obtain ⟨l, hl, hr⟩ := ih (by omega)
      obtain ⟨x, g, of, he, hg, c0, c1, c2⟩ := h k (by omega)
      refine ⟨l ++ [x], by simp [hl], fun i hi' => ?_⟩
      rcases Nat.lt_or_ge i k with g1 | g1
      · obtain ⟨g, of, e1, e2⟩ := hr i g1
        refine ⟨g, of, e1, ?_⟩
        rw [List.getD_eq_getElem?_getD, List.getElem?_append_left (by omega), ← List.getD_eq_getElem?_getD]
        exact e2
      · obtain rfl : i = k := by omega
        refine ⟨g, of, he, hg, ?_⟩
        rw [List.getD_eq_getElem?_getD, List.getElem?_append_right (by omega), hl, Nat.sub_self]
        exact ⟨c0, c1, c2⟩
  obtain ⟨l, hl, hr⟩ := key len (Nat.le_refl _)
  refine ⟨l, hl, ⟨hl, hlc, hc, (fun e => by cases e), fun i hi => ?_⟩⟩
  obtain ⟨g, of, e1, e2⟩ := hr i hi
  obtain ⟨b, o, rfl⟩ : ∃ b o, a = ⟨b, o, none⟩ := by
    obtain ⟨g0, o0, e, _⟩ := hr 0 (by omega)
    exact ⟨g0, o0, by simpa [Addr.add] using e⟩
  rw [Go.WideShapes.add_plain] at e1
  simp only [Addr.mk.injEq] at e1
  obtain ⟨rfl, rfl, -⟩ := e1
  exact ⟨b, o, rfl, e2⟩
theorem list3 {α : Type} {l : List α} (h : l.length = 3) : ∃ a b c, l = [a, b, c] := by
  match l, h with
  | [a, b, c], _ => exact ⟨a, b, c, rfl⟩
section
variable {H : Type} {enc : TypeId × Value → H} {W : World} {sp : Nat → Bool} {held : Bool}
/-- how many elements the datum of a slice has -/
def Elems (d : DataW H) (n : Nat) : Prop := (d = .nil ∧ n = 0) ∨ ∃ el re, d = .slice el re ∧ el.length = n
theorem size_slice {ts : List TypeId} {ds : List (DataW H)} (hsz : (DataW.weightsEach Try.prog ts ds).all (· ≤ reachBytes) = true) {j : Nat} {t e : TypeId} {d : DataW H} {n : Nat} (ht : ts[j]? = some t) (hd : ds[j]? = some d) (hu : Try.prog.underlying t = some (.slice e)) (hx : Elems d n) : n * Try.prog.bytesOf e ≤ reachBytes := by
  rcases hx with ⟨rfl, rfl⟩ | ⟨el, re, rfl, rfl⟩
  · simp
  · exact Nat.le_trans (Nat.mul_le_mul_right _ (by omega)) (sized_slice hsz ht hd hu)
theorem trod_is {n : Nat} {c : Value} {x : DataW H × List MemPlace} (h : DataW.trod enc Try.prog W 0 sp held n 22 [c] = some x) : ∃ (l : List Int) (ao : Option Addr) (cap : Nat), c = .slice ao l.length cap ∧ RdZ W ao l.length cap l ∧ (∀ z ∈ l, I64 z) ∧ Elems x.1 l.length := by
  rcases DataW.trod_slice Try.underlying22 h with ⟨e3, rfl⟩ | ⟨a, len, cap, el, re, m', rfl, e3, rfl, -, hlc, hcm, hel, hE, -⟩
  · simp at e3
    subst e3
    exact ⟨[], none, 0, rfl, rdz_nil W, (fun z hz => by cases hz), .inl ⟨rfl, rfl⟩⟩
  · simp at e3
    subst e3
    rw [show Try.prog.cellsOf 3 = 1 by kernel_rfl] at hE
    have key : ∀ i, i < len → ∃ z g of, a.add (i * 1) = ⟨g, of, none⟩ ∧ W.cell? ⟨g, of, none⟩ = some (.int .i64 z) ∧ I64 z := by
      intro i hi
      have hE := hE i hi
      rw [List.getElem?_eq_getElem (by omega : i < el.length), Option.bind_eq_some_iff] at hE
      obtain ⟨cs, hcs, htr⟩ := hE
      obtain ⟨g, of, d0, ha, hg, rfl, k0⟩ := cells_1 hcs
      obtain ⟨z, e1, -, w1⟩ := DataW.trod_int Try.underlying3 htr
      simp at e1
      subst e1
      exact ⟨z, g, of, ha, k0, i64_of w1⟩
    obtain ⟨l, hll, hr, hz⟩ := zs_row hlc (cap_of hcm) key
    subst hll
    exact ⟨l, some a, cap, rfl, hr, hz, .inr ⟨_, _, rfl, by rw [List.length_map]; exact hel⟩⟩
theorem trod_cb {n : Nat} {cs : List Value} {x : DataW H × List MemPlace} (h : DataW.trod enc Try.prog W 0 sp held n 35 cs = some x) : ∃ y : Cb, cs = y.cells := by
  obtain ⟨xs, m, rfl, rfl, hl, hxl, hf⟩ := DataW.trod_struct Try.underlying35 h
  rw [show Try.prog.cellsOf 35 = 3 by kernel_rfl] at hl
  obtain ⟨c0, c1, c2, rfl⟩ := list3 hl
  obtain ⟨x0, x1, x2, rfl⟩ := list3 (hxl.trans rfl)
  have f0 := hf 0 _ rfl
  have f1 := hf 1 _ rfl
  have f2 := hf 2 _ rfl
  replace f0 : DataW.trod enc Try.prog W 0 sp held m 3 [c0] = some x0 := by
    have e := f0
    change DataW.trod enc Try.prog W 0 sp held m 3 (List.take (Try.prog.cellsOf 3) (List.drop 0 [c0, c1, c2])) = some x0 at e
    rw [show Try.prog.cellsOf 3 = 1 by kernel_rfl] at e
    exact e
  replace f1 : DataW.trod enc Try.prog W 0 sp held m 3 [c1] = some x1 := by
    have e := f1
    change DataW.trod enc Try.prog W 0 sp held m 3 (List.take (Try.prog.cellsOf 3) (List.drop 1 [c0, c1, c2])) = some x1 at e
    rw [show Try.prog.cellsOf 3 = 1 by kernel_rfl] at e
    exact e
  replace f2 : DataW.trod enc Try.prog W 0 sp held m 3 [c2] = some x2 := by
    have e := f2
    change DataW.trod enc Try.prog W 0 sp held m 3 (List.take (Try.prog.cellsOf 3) (List.drop 2 [c0, c1, c2])) = some x2 at e
    rw [show Try.prog.cellsOf 3 = 1 by kernel_rfl] at e
    exact e
  obtain ⟨a, e0, -, -⟩ := DataW.trod_int Try.underlying3 f0
  obtain ⟨b, e1, -, -⟩ := DataW.trod_int Try.underlying3 f1
  obtain ⟨t, e2, -, -⟩ := DataW.trod_int Try.underlying3 f2
  simp at e0 e1 e2
  subst e0; subst e1; subst e2
  exact ⟨⟨a, b, t⟩, rfl⟩
theorem trod_cs {n : Nat} {c : Value} {x : DataW H × List MemPlace} (h : DataW.trod enc Try.prog W 0 sp held n 26 [c] = some x) : ∃ (l : List Cb) (ao : Option Addr) (cap : Nat), c = .slice ao l.length cap ∧ RdC W ao l.length cap l ∧ Elems x.1 l.length := by
  rcases DataW.trod_slice Try.underlying26 h with ⟨e3, rfl⟩ | ⟨a, len, cap, el, re, m', rfl, e3, rfl, -, hlc, hcm, hel, hE, -⟩
  · simp at e3
    subst e3
    exact ⟨[], none, 0, rfl, rdc_nil W, .inl ⟨rfl, rfl⟩⟩
  · simp at e3
    subst e3
    rw [show Try.prog.cellsOf 35 = 3 by kernel_rfl] at hE
    have key : ∀ i, i < len → ∃ (x : Cb) (g of : Nat), a.add (i * 3) = ⟨g, of, none⟩ ∧ g < W.heap.size ∧ W.cell? ⟨g, of, none⟩ = some (.int .i64 x.m) ∧ W.cell? ⟨g, of + 1, none⟩ = some (.int .i64 x.b) ∧ W.cell? ⟨g, of + 2, none⟩ = some (.int .i64 x.t) := by
      intro i hi
      have hE := hE i hi
      rw [List.getElem?_eq_getElem (by omega : i < el.length), Option.bind_eq_some_iff] at hE
      obtain ⟨cs, hcs, htr⟩ := hE
      obtain ⟨g, of, d0, d1, d2, ha, hg, rfl, k0, k1, k2⟩ := cells_3 hcs
      obtain ⟨y, hy⟩ := trod_cb htr
      simp only [Cb.cells, List.cons.injEq, and_true] at hy
      obtain ⟨rfl, rfl, rfl⟩ := hy
      exact ⟨y, g, of, ha, hg, k0, k1, k2⟩
    obtain ⟨l, hll, hr⟩ := cs_row hlc (cap_of hcm) key
    subst hll
    exact ⟨l, some a, cap, rfl, hr, .inr ⟨_, _, rfl, by rw [List.length_map]; exact hel⟩⟩
set_option maxRecDepth 100000 in
/-- a slice of numbers that came in -/
theorem open_is {base : Nat} {v : Value} {d : DataW H} {p : List MemPlace} (hv : Value.okWide Try.prog W .any base 22 v) (h : DataW.Trod enc Try.prog W 0 sp held 22 v d p) : ∃ (l : List Int) (ao : Option Addr) (cap : Nat), v = .slice ao l.length cap ∧ RdZ W ao l.length cap l ∧ (∀ z ∈ l, I64 z) ∧ Elems d l.length := by
  unfold Value.okWide at hv
  rw [Try.underlying22] at hv
  obtain ⟨n, hn⟩ := h
  cases v with
  | slice ao len cap => exact trod_is hn
  | _ => exact hv.elim
set_option maxRecDepth 100000 in
/-- a slice of cubes that came in -/
theorem open_cs {base : Nat} {v : Value} {d : DataW H} {p : List MemPlace} (hv : Value.okWide Try.prog W .any base 26 v) (h : DataW.Trod enc Try.prog W 0 sp held 26 v d p) : ∃ (l : List Cb) (ao : Option Addr) (cap : Nat), v = .slice ao l.length cap ∧ RdC W ao l.length cap l ∧ Elems d l.length := by
  unfold Value.okWide at hv
  rw [Try.underlying26] at hv
  obtain ⟨n, hn⟩ := h
  cases v with
  | slice ao len cap => exact trod_cs hn
  | _ => exact hv.elim
end
theorem bytesZ {n : Nat} (h : n * Try.prog.bytesOf 3 ≤ reachBytes) : n * 8 ≤ 140737488351232 := by
  rw [show Try.prog.bytesOf 3 = 8 by kernel_rfl] at h
  simp only [reachBytes] at h
  omega
theorem bytesC {n : Nat} (h : n * Try.prog.bytesOf 35 ≤ reachBytes) : n * 24 ≤ 140737488355328 := by
  rw [show Try.prog.bytesOf 35 = 24 by kernel_rfl] at h
  simp only [reachBytes] at h
  omega
theorem in64 {z : Int} (h : (Lit.int .i64 z).wf = true) : -9223372036854775808 ≤ z ∧ z ≤ 9223372036854775807 := i64_of h
end Go.Proofs.Ythkabeaecfiinaa.Ro
