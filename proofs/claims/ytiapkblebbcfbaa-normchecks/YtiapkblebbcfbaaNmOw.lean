/- What a law is handed as a slice of numbers, read as a list. -/
import Derived.Test.YtiapkblebbcfbaaTrV
import Derived.Test.YtiapkblebbcfbaaNmP
import Derived.Test.YtiapkblebbcfbaaNmN
import Derived.SizedLaws
namespace Go.Proofs.Ytiapkblebbcfbaa.Gl
open Go.RowKit
set_option linter.unusedVariables false

theorem cells_one {w : World} {a : Addr} {cs : List Value} (h : w.cells? 0 a 1 = some cs) : ∃ g of c0, a = ⟨g, of, none⟩ ∧ g < w.heap.size ∧ cs = [c0] ∧ w.cell? ⟨g, of, none⟩ = some c0 := by
  unfold World.cells? at h
  rw [if_pos (Nat.zero_le _)] at h
  obtain ⟨b, of, sp⟩ := a
  cases k0 : w.cell? (Addr.add ⟨b, of, sp⟩ 0) with
  | none => simp [List.range_succ, k0] at h
  | some c0 =>
    have hsp : sp = none := by simpa [Addr.add] using World.cell?_spot k0
    subst hsp
    simp [List.range_succ, k0] at h
    simp only [Addr.add] at k0
    exact ⟨b, of, c0, rfl, cell_lt6 k0, h.symm, k0⟩
theorem zs_row {W : World} {a : Addr} {len cap : Nat} (hlc : len ≤ cap) (hc : cap ≤ 9223372036854775807) (h : ∀ i, i < len → ∃ z g of, a.add (i * 1) = ⟨g, of, none⟩ ∧ W.cell? ⟨g, of, none⟩ = some (.int .i64 z) ∧ I64 z) : ∃ l : List Int, l.length = len ∧ RdZ W (some a) len cap l ∧ ∀ z ∈ l, I64 z := by
  have key : ∀ k, k ≤ len → ∃ l : List Int, l.length = k ∧ (∀ i, i < k → ∃ g of, a.add (i * 1) = ⟨g, of, none⟩ ∧ W.cell? ⟨g, of, none⟩ = some (.int .i64 (l.getD i 0))) ∧ ∀ z ∈ l, I64 z := by
    intro k
    induction k with
    | zero => intro _; exact ⟨[], rfl, fun i hi => absurd hi (by omega), fun z hz => by cases hz⟩
    | succ k ih =>
      intro hk
      obtain ⟨l, hl, hr, hz⟩ := ih (by omega)
      obtain ⟨z, g, of, he, hcell, hi⟩ := h k (by omega)
      refine ⟨l ++ [z], by simp [hl], fun i hi' => ?_, fun y hy => ?_⟩
      · rcases Nat.lt_or_ge i k with g1 | g1
        · obtain ⟨g, of, e1, e2⟩ := hr i g1
          refine ⟨g, of, e1, ?_⟩
          rw [List.getD_eq_getElem?_getD, List.getElem?_append_left (by omega), ← List.getD_eq_getElem?_getD]
          exact e2
        · obtain rfl : i = k := by omega
          refine ⟨g, of, he, ?_⟩
          rw [List.getD_eq_getElem?_getD, List.getElem?_append_right (by omega), hl, Nat.sub_self]
          exact hcell
      · rcases List.mem_append.1 hy with h1 | h1
        · exact hz y h1
        · rw [List.mem_singleton] at h1; subst h1; exact hi
  obtain ⟨l, hl, hr, hz⟩ := key len (Nat.le_refl _)
  refine ⟨l, hl, ⟨hl, hlc, hc, (fun e => by cases e), fun i hi => ?_⟩, hz⟩
  obtain ⟨g, of, e1, e2⟩ := hr i hi
  obtain ⟨b, o, rfl⟩ : ∃ b o, a = ⟨b, o, none⟩ := by
    obtain ⟨g0, o0, e, _⟩ := hr 0 (by omega)
    exact ⟨g0, o0, by simpa [Addr.add] using e⟩
  rw [Go.WideShapes.add_plain] at e1
  simp only [Addr.mk.injEq] at e1
  obtain ⟨rfl, rfl, -⟩ := e1
  exact ⟨b, o, rfl, by rw [Nat.mul_one] at e2; exact e2⟩
section
variable {H : Type} {enc : TypeId × Value → H} {W : World} {sp : Nat → Bool} {held : Bool}
theorem trod_zs {n : Nat} {c : Value} {x : DataW H × List MemPlace} (h : DataW.trod enc Try.prog W 0 sp held n 24 [c] = some x) : ∃ (l : List Int) (ao : Option Addr) (cap : Nat), c = .slice ao l.length cap ∧ RdZ W ao l.length cap l ∧ (∀ z ∈ l, I64 z) ∧ cap ≤ maxLen := by
  rcases DataW.trod_slice Try.underlying24 h with ⟨e3, -⟩ | ⟨a, len, cap, el, re, m', rfl, e3, -, -, hlc, hcm, hel, hE, -⟩
  · simp at e3
    subst e3
    exact ⟨[], none, 0, rfl, rdz_nil W, (fun z hz => by cases hz), Nat.zero_le _⟩
  · simp at e3
    subst e3
    rw [show Try.prog.cellsOf 2 = 1 by kernel_rfl] at hE
    have key : ∀ i, i < len → ∃ z g of, a.add (i * 1) = ⟨g, of, none⟩ ∧ W.cell? ⟨g, of, none⟩ = some (.int .i64 z) ∧ I64 z := by
      intro i hi
      have hE := hE i hi
      rw [List.getElem?_eq_getElem (by omega : i < el.length), Option.bind_eq_some_iff] at hE
      obtain ⟨cs, hcs, htr⟩ := hE
      obtain ⟨g, of, d0, ha, hg, rfl, k0⟩ := cells_one hcs
      obtain ⟨z, e1, -, w1⟩ := DataW.trod_int Try.underlying2 htr
      simp at e1
      subst e1
      exact ⟨z, g, of, ha, k0, i64_of w1⟩
    obtain ⟨l, hll, hr, hz⟩ := zs_row hlc (sz_of hcm) key
    subst hll
    exact ⟨l, some a, cap, rfl, hr, hz, hcm⟩
set_option maxRecDepth 100000 in
/-- a slice of numbers that came in -/
theorem open_zs {base : Nat} {v : Value} {d : DataW H} {p : List MemPlace} (hv : Value.okWide Try.prog W .any base 24 v) (h : DataW.Trod enc Try.prog W 0 sp held 24 v d p) : ∃ (l : List Int) (ao : Option Addr) (cap : Nat), v = .slice ao l.length cap ∧ RdZ W ao l.length cap l ∧ (∀ z ∈ l, I64 z) ∧ cap ≤ maxLen := by
  unfold Value.okWide at hv
  rw [Try.underlying24] at hv
  obtain ⟨n, hn⟩ := h
  cases v with
  | slice ao len cap => exact trod_zs hn
  | _ => exact hv.elim
end
end Go.Proofs.Ytiapkblebbcfbaa.Gl
/- What a law is handed as a normal atom, read as one. -/
namespace Go.Proofs.Ytiapkblebbcfbaa.Gl
open Go.RowKit
set_option linter.unusedVariables false

theorem ss_row {W : World} {a : Addr} {len cap : Nat} (hlc : len ≤ cap) (hc : cap ≤ 9223372036854775807) (h : ∀ i, i < len → ∃ z g of, a.add (i * 1) = ⟨g, of, none⟩ ∧ W.cell? ⟨g, of, none⟩ = some (.string z) ∧ Sz z.size) : ∃ l : List ByteArray, l.length = len ∧ RdS W (some a) len cap l ∧ ∀ z ∈ l, Sz z.size := by
  have key : ∀ k, k ≤ len → ∃ l : List ByteArray, l.length = k ∧ (∀ i, i < k → ∃ g of, a.add (i * 1) = ⟨g, of, none⟩ ∧ W.cell? ⟨g, of, none⟩ = some (.string (l.getD i emp))) ∧ ∀ z ∈ l, Sz z.size := by
    intro k
    induction k with
    | zero => intro _; exact ⟨[], rfl, fun i hi => absurd hi (by omega), fun z hz => by cases hz⟩
    | succ k ih =>
      intro hk
      obtain ⟨l, hl, hr, hz⟩ := ih (by omega)
      obtain ⟨z, g, of, he, hcell, hi⟩ := h k (by omega)
      refine ⟨l ++ [z], by simp [hl], fun i hi' => ?_, fun y hy => ?_⟩
      · rcases Nat.lt_or_ge i k with g1 | g1
        · obtain ⟨g, of, e1, e2⟩ := hr i g1
          refine ⟨g, of, e1, ?_⟩
          rw [List.getD_eq_getElem?_getD, List.getElem?_append_left (by omega), ← List.getD_eq_getElem?_getD]
          exact e2
        · obtain rfl : i = k := by omega
          refine ⟨g, of, he, ?_⟩
          rw [List.getD_eq_getElem?_getD, List.getElem?_append_right (by omega), hl, Nat.sub_self]
          exact hcell
      · rcases List.mem_append.1 hy with h1 | h1
        · exact hz y h1
        · rw [List.mem_singleton] at h1; subst h1; exact hi
  obtain ⟨l, hl, hr, hz⟩ := key len (Nat.le_refl _)
  refine ⟨l, hl, ⟨hl, hlc, hc, (fun e => by cases e), fun i hi => ?_⟩, hz⟩
  obtain ⟨g, of, e1, e2⟩ := hr i hi
  obtain ⟨b, o, rfl⟩ : ∃ b o, a = ⟨b, o, none⟩ := by
    obtain ⟨g0, o0, e, _⟩ := hr 0 (by omega)
    exact ⟨g0, o0, by simpa [Addr.add] using e⟩
  rw [Go.WideShapes.add_plain] at e1
  simp only [Addr.mk.injEq] at e1
  obtain ⟨rfl, rfl, -⟩ := e1
  exact ⟨b, o, rfl, by rw [Nat.mul_one] at e2; exact e2⟩
section
variable {H : Type} {enc : TypeId × Value → H} {W : World} {sp : Nat → Bool} {held : Bool}
theorem trod_ss {n : Nat} {c : Value} {x : DataW H × List MemPlace} (h : DataW.trod enc Try.prog W 0 sp held n 23 [c] = some x) : ∃ (l : List ByteArray) (ao : Option Addr) (cap : Nat), c = .slice ao l.length cap ∧ RdS W ao l.length cap l ∧ (∀ z ∈ l, Sz z.size) ∧ cap ≤ maxLen := by
  rcases DataW.trod_slice Try.underlying23 h with ⟨e3, -⟩ | ⟨a, len, cap, el, re, m', rfl, e3, -, -, hlc, hcm, hel, hE, -⟩
  · simp at e3
    subst e3
    exact ⟨[], none, 0, rfl, ⟨rfl, Nat.le_refl _, by decide, (fun _ => rfl), fun i hi => absurd hi (Nat.not_lt_zero _)⟩, (fun z hz => by cases hz), Nat.zero_le _⟩
  · simp at e3
    subst e3
    rw [show Try.prog.cellsOf 9 = 1 by kernel_rfl] at hE
    have key : ∀ i, i < len → ∃ z g of, a.add (i * 1) = ⟨g, of, none⟩ ∧ W.cell? ⟨g, of, none⟩ = some (.string z) ∧ Sz z.size := by
      intro i hi
      have hE := hE i hi
      rw [List.getElem?_eq_getElem (by omega : i < el.length), Option.bind_eq_some_iff] at hE
      obtain ⟨cs, hcs, htr⟩ := hE
      obtain ⟨g, of, d0, ha, hg, rfl, k0⟩ := cells_one hcs
      obtain ⟨z, e1, -, w1⟩ := DataW.trod_string Try.underlying9 htr
      simp at e1
      subst e1
      exact ⟨z, g, of, ha, k0, sz_of w1⟩
    obtain ⟨l, hll, hr, hz⟩ := ss_row hlc (sz_of hcm) key
    subst hll
    exact ⟨l, some a, cap, rfl, hr, hz, hcm⟩
/-- a normal atom as a value -/
def NrV (W : World) (N : Nr) (v : Value) : Prop := ∃ no co n c o d, v = nrV N.kd N.bd N.md no co n c o d ∧ NrM W N no co n c o d ∧ I64 N.kd ∧ I64 N.md ∧ n ≤ c ∧ c ≤ maxLen ∧ o ≤ d ∧ d ≤ maxLen
theorem trod_nr {n : Nat} {cs : List Value} {x : DataW H × List MemPlace} (h : DataW.trod enc Try.prog W 0 sp held n 26 cs = some x) : ∃ N c0 c1 c2 c3 c4, cs = [c0, c1, c2, c3, c4] ∧ NrV W N (.agg #[c0, c1, c2, c3, c4]) := by
  obtain ⟨xs, m, rfl, rfl, hl, hxl, hf⟩ := DataW.trod_struct Try.underlying26 h
  rw [show Try.prog.cellsOf 26 = 5 by kernel_rfl] at hl
  obtain ⟨c0, c1, c2, c3, c4, rfl⟩ := list5 hl
  obtain ⟨x0, x1, x2, x3, x4, rfl⟩ := list5 (hxl.trans rfl)
  have f0 := hf 0 _ rfl
  replace f0 : DataW.trod enc Try.prog W 0 sp held m 22 [c0] = some x0 := by
    have e := f0
    change DataW.trod enc Try.prog W 0 sp held m 22 (List.take (Try.prog.cellsOf 22) (List.drop 0 [c0, c1, c2, c3, c4])) = some x0 at e
    rw [show Try.prog.cellsOf 22 = 1 by kernel_rfl] at e
    exact e
  have f1 := hf 1 _ rfl
  replace f1 : DataW.trod enc Try.prog W 0 sp held m 23 [c1] = some x1 := by
    have e := f1
    change DataW.trod enc Try.prog W 0 sp held m 23 (List.take (Try.prog.cellsOf 23) (List.drop 1 [c0, c1, c2, c3, c4])) = some x1 at e
    rw [show Try.prog.cellsOf 23 = 1 by kernel_rfl] at e
    exact e
  have f2 := hf 2 _ rfl
  replace f2 : DataW.trod enc Try.prog W 0 sp held m 24 [c2] = some x2 := by
    have e := f2
    change DataW.trod enc Try.prog W 0 sp held m 24 (List.take (Try.prog.cellsOf 24) (List.drop 2 [c0, c1, c2, c3, c4])) = some x2 at e
    rw [show Try.prog.cellsOf 24 = 1 by kernel_rfl] at e
    exact e
  have f3 := hf 3 _ rfl
  replace f3 : DataW.trod enc Try.prog W 0 sp held m 2 [c3] = some x3 := by
    have e := f3
    change DataW.trod enc Try.prog W 0 sp held m 2 (List.take (Try.prog.cellsOf 2) (List.drop 3 [c0, c1, c2, c3, c4])) = some x3 at e
    rw [show Try.prog.cellsOf 2 = 1 by kernel_rfl] at e
    exact e
  have f4 := hf 4 _ rfl
  replace f4 : DataW.trod enc Try.prog W 0 sp held m 2 [c4] = some x4 := by
    have e := f4
    change DataW.trod enc Try.prog W 0 sp held m 2 (List.take (Try.prog.cellsOf 2) (List.drop 4 [c0, c1, c2, c3, c4])) = some x4 at e
    rw [show Try.prog.cellsOf 2 = 1 by kernel_rfl] at e
    exact e
  obtain ⟨kd, e0, -, w0⟩ := DataW.trod_int Try.underlying22 f0
  obtain ⟨ns, no, c, rfl, hN, hNz, hcm⟩ := trod_ss f1
  obtain ⟨zs, co, d, rfl, hZ, hZz, hdm⟩ := trod_zs f2
  obtain ⟨bd, e3, -, w3⟩ := DataW.trod_int Try.underlying2 f3
  obtain ⟨md, e4, -, w4⟩ := DataW.trod_int Try.underlying2 f4
  simp at e0 e3 e4
  subst e0; subst e3; subst e4
  refine ⟨⟨kd, ns, zs, bd, md⟩, _, _, _, _, _, rfl, no, co, _, c, _, d, rfl, ⟨hN, hZ, fun x hx => ?_, hZz, i64_of w3, Nat.le_trans hZ.lecap hdm⟩, i64_of w0, i64_of w4, hN.lecap, hcm, hZ.lecap, hdm⟩
  have := hNz x hx
  unfold Sz at this
  omega
set_option maxRecDepth 100000 in
/-- a normal atom that came in -/
theorem open_nr {base : Nat} {v : Value} {d : DataW H} {p : List MemPlace} (hv : Value.okWide Try.prog W .any base 26 v) (h : DataW.Trod enc Try.prog W 0 sp held 26 v d p) : ∃ N, NrV W N v := by
  unfold Value.okWide at hv
  rw [Try.underlying26] at hv
  obtain ⟨cs, rfl, -, -⟩ := hv
  obtain ⟨n, hn⟩ := h
  obtain ⟨N, c0, c1, c2, c3, c4, he, hr⟩ := trod_nr hn
  refine ⟨N, ?_⟩
  have : cs.toList = [c0, c1, c2, c3, c4] := by simpa [Value.cells] using he
  rw [show cs = cs.toList.toArray by simp, this]
  exact hr
end
end Go.Proofs.Ytiapkblebbcfbaa.Gl
/- What a normal atom that came in weighs. -/
namespace Go.Proofs.Ytiapkblebbcfbaa.Gl
open Go.RowKit
set_option linter.unusedVariables false

section
variable {H : Type} {enc : TypeId × Value → H} {W : World} {sp : Nat → Bool} {held : Bool}
theorem ss_weight {n : Nat} {ao : Option Addr} {len cap : Nat} {x : DataW H × List MemPlace} (h : DataW.trod enc Try.prog W 0 sp held n 23 [.slice ao len cap] = some x) (hw : ∀ k ∈ x.1.weights Try.prog 23, k ≤ reachBytes) : len * 16 ≤ 140737488351232 := by
  rcases DataW.trod_slice Try.underlying23 h with ⟨e3, -⟩ | ⟨a, len', cap', el, re, m', rfl, e3, hx, -, hlc, hcm, hel, hE, -⟩
  · simp at e3
    omega
  · simp at e3
    obtain ⟨-, rfl, -⟩ := e3
    have := hw ((el.length + re.length) * Try.prog.bytesOf 9) (by rw [hx]; simp [DataW.weights, Try.underlying23])
    rw [show Try.prog.bytesOf 9 = 16 by kernel_rfl, show reachBytes = 140737488351232 by decide, hel] at this
    omega
theorem zs_weight {n : Nat} {ao : Option Addr} {len cap : Nat} {x : DataW H × List MemPlace} (h : DataW.trod enc Try.prog W 0 sp held n 24 [.slice ao len cap] = some x) (hw : ∀ k ∈ x.1.weights Try.prog 24, k ≤ reachBytes) : len * 8 ≤ 140737488351232 := by
  rcases DataW.trod_slice Try.underlying24 h with ⟨e3, -⟩ | ⟨a, len', cap', el, re, m', rfl, e3, hx, -, hlc, hcm, hel, hE, -⟩
  · simp at e3
    omega
  · simp at e3
    obtain ⟨-, rfl, -⟩ := e3
    have := hw ((el.length + re.length) * Try.prog.bytesOf 2) (by rw [hx]; simp [DataW.weights, Try.underlying24])
    rw [show Try.prog.bytesOf 2 = 8 by kernel_rfl, show reachBytes = 140737488351232 by decide, hel] at this
    omega
theorem trodw_nr {n : Nat} {kd bd md : Int} {no co : Option Addr} {l c o d : Nat} {x : DataW H × List MemPlace} (h : DataW.trod enc Try.prog W 0 sp held n 26 [.int .i64 kd, .slice no l c, .slice co o d, .int .i64 bd, .int .i64 md] = some x) (hw : ∀ k ∈ x.1.weights Try.prog 26, k ≤ reachBytes) : l * 16 ≤ 140737488351232 ∧ o * 8 ≤ 140737488351232 := by
  obtain ⟨xs, m, rfl, rfl, hl, hxl, hf⟩ := DataW.trod_struct Try.underlying26 h
  obtain ⟨x0, x1, x2, x3, x4, rfl⟩ := list5 (hxl.trans rfl)
  have f1 := hf 1 _ rfl
  replace f1 : DataW.trod enc Try.prog W 0 sp held m 23 [.slice no l c] = some x1 := by
    have e := f1
    change DataW.trod enc Try.prog W 0 sp held m 23 (List.take (Try.prog.cellsOf 23) (List.drop 1 [.int .i64 kd, .slice no l c, .slice co o d, .int .i64 bd, .int .i64 md])) = some x1 at e
    rw [show Try.prog.cellsOf 23 = 1 by kernel_rfl] at e
    exact e
  have f2 := hf 2 _ rfl
  replace f2 : DataW.trod enc Try.prog W 0 sp held m 24 [.slice co o d] = some x2 := by
    have e := f2
    change DataW.trod enc Try.prog W 0 sp held m 24 (List.take (Try.prog.cellsOf 24) (List.drop 2 [.int .i64 kd, .slice no l c, .slice co o d, .int .i64 bd, .int .i64 md])) = some x2 at e
    rw [show Try.prog.cellsOf 24 = 1 by kernel_rfl] at e
    exact e
  have g : ∀ k, k ∈ x1.1.weights Try.prog 23 ∨ k ∈ x2.1.weights Try.prog 24 → k ≤ reachBytes := fun k hk => hw k (by
    unfold DataW.weights
    rw [Try.underlying26]
    simp only [List.map_cons, List.map_nil, DataW.weightsEach, List.mem_append]
    rcases hk with hk | hk
    · exact .inr (.inl hk)
    · exact .inr (.inr (.inl hk)))
  exact ⟨ss_weight f1 fun k hk => g k (.inl hk), zs_weight f2 fun k hk => g k (.inr hk)⟩
theorem nr_weight {v : Value} {d : DataW H} {p : List MemPlace} (h : DataW.Trod enc Try.prog W 0 sp held 26 v d p) (hw : ∀ k ∈ d.weights Try.prog 26, k ≤ reachBytes) : ∀ kd bd md no co l c o e, v = nrV kd bd md no co l c o e → l * 16 ≤ 140737488351232 ∧ o * 8 ≤ 140737488351232 := by
  rintro kd bd md no co l c o e rfl
  obtain ⟨n, hn⟩ := h
  exact trodw_nr hn hw
end
end Go.Proofs.Ytiapkblebbcfbaa.Gl
