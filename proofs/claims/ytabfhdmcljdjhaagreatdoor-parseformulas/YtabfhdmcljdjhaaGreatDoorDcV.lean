/- The document's reader: a row of formulas of our own. -/
import Derived.Test.YtabfhdmcljdjhaaGreatDoorDcU
namespace Go.Proofs.YtabfhdmcljdjhaaGreatDoor.Gl
open Go.RowKit
set_option linter.unusedVariables false
set_option linter.unusedSimpArgs false

/-- all but one block is kept -/
abbrev KpB (r : Option Nat) (w w' : World) : Prop := w.grownBy w' r
/-- an append onto a row of our own, and where the answer lies -/
theorem run_append_where {P : Program} {w : World} (base : Nat) (t ty e : TypeId) (i : TypeInfo) (z : Value) (size bytes : Nat) (ht : P.underlying t = some (.slice e)) (hi : P.info? e = some i) (hz : i.zero = some z)
    (hsize : i.size = size) (hby : i.bytes = bytes) (hzs : z.cells.size = size) (hsz : 0 < size)
    (v : Value) (n : Nat) (xs : List Value) (hown : w.ownsRow base e size v n xs)
    (a : Addr) (m c : Nat) (news : List Value) (hl : news.length = m * size) (hnews : ∀ j u, news[j]? = some u → w.cell? (a.add j) = some u) (h1 : ∀ u ∈ news, u.oneCell' = true)
    (h63 : n + m ≤ maxLen) (hbytes : (n + m) * bytes ≤ 140737488355328) (hbase : base ≤ w.heap.size) :
    ∃ v' w', (Builtin.append_ #[t, t] ty #[v, .slice (some a) m c]).run P w = .ok v' w' ∧ w'.ownsRow base e size v' (n + m) (xs ++ news) ∧ KpB v.ownBlock w w' ∧ ∀ q, v'.ownBlock = some q → v.ownBlock = some q ∨ w.heap.size ≤ q := by
  obtain ⟨v', w', hr, h2, h3, h4⟩ := run_append_own (P := P) w base t ty e i z size bytes ht hi hz hsize hby hzs hsz v n xs hown a m c news hl hnews h1 h63 hbytes hbase
  refine ⟨v', w', hr, h2, h3, fun q hq => ?_⟩
  have hsmall : n + m ≤ 9223372036854775807 := by simp only [maxLen] at h63; omega
  rcases hown.2 with ⟨rfl, rfl⟩ | ⟨g, cap, cur, rfl, hbg, hg, hnc, hcm, hcs, htake⟩
  · rcases Nat.eq_zero_or_pos m with hm | hm
    · rw [h4.2 ⟨rfl, hm⟩] at hq
      simp [Value.ownBlock] at hq
    · have hr' := run_append_nil (P := P) w t ty e i z ht hi hz a m c news (by rw [hsize]; exact hl) hnews hm (by omega) (by rw [hby]; have := hbytes; simp only [Nat.zero_add] at this; omega)
      rw [hr'] at hr
      simp only [Result.ok.injEq] at hr
      obtain ⟨rfl, -⟩ := hr
      simp only [Value.ownBlock, Option.some.injEq] at hq
      omega
  · by_cases hroom : n + m ≤ cap
    · have hr' := run_append_room (P := P) w t ty e i ht hi g n cap cur hg a m c news (by rw [hsize]; exact hl) hnews h1 hroom (by rw [hsize, hl, hcs, ← Nat.add_mul]; exact Nat.mul_le_mul_right _ hroom)
      rw [hr'] at hr
      simp only [Result.ok.injEq] at hr
      obtain ⟨rfl, -⟩ := hr
      exact .inl hq
    · have hr' := run_append_grow (P := P) w t ty e i z ht hi hz ⟨g, 0, none⟩ n cap xs (by rw [hsize]; exact hown.1) (hown.cells (g := g) rfl) a m c news (by rw [hsize]; exact hl) hnews (by omega) (by omega) (growslice_fits (by omega) (by rw [hby]; exact hbytes))
      rw [hr'] at hr
      simp only [Result.ok.injEq] at hr
      obtain ⟨rfl, -⟩ := hr
      simp only [Value.ownBlock, Option.some.injEq] at hq
      omega
abbrev cellsF (E : List FV) : List Value := E.flatMap FV.cells
theorem flatF_get (cs : List FV) (i r : Nat) (hr : r < 5) (hi : i < cs.length) : (cellsF cs)[i * 5 + r]? = (eget cs i).cells[r]? := by
  induction cs generalizing i with
  | nil => simp at hi
  | cons x cs ih =>
    have hx : x.cells.length = 5 := rfl
    rw [cellsF, List.flatMap_cons]
    cases i with
    | zero =>
      rw [Nat.zero_mul, Nat.zero_add, List.getElem?_append_left (by omega)]
      rfl
    | succ i =>
      rw [List.getElem?_append_right (by omega), hx, show (i + 1) * 5 + r - 5 = i * 5 + r by omega]
      exact ih i (by simpa using hi)
theorem ownsF_cell {w : World} {base n : Nat} {t : TypeId} {v : Value} {E : List FV} (h : w.ownsRow base t 5 v n (cellsF E)) (hE : E.length = n) (i : Nat) (hi : i < n) : ∃ g cap, v = .slice (some ⟨g, 0, none⟩) n cap ∧ n ≤ cap ∧ cap ≤ 9223372036854775807 ∧ base ≤ g ∧ g < w.heap.size ∧ ∀ r, r < 5 → w.cell? ⟨g, i * 5 + r, none⟩ = (eget E i).cells[r]? := by
  have h' := h
  obtain ⟨hl, hv⟩ := h'
  rcases hv with ⟨rfl, hz⟩ | ⟨g, cap, cur, rfl, hg, hh, hnc, hcm, hcs, hx⟩
  · omega
  · exact ⟨g, cap, rfl, hnc, hcm, hg, (Array.getElem?_eq_some_iff.1 hh).1, fun r hr => by rw [h.cellAt (i * 5 + r) (by omega), flatF_get E i r hr (by omega)]⟩
theorem Tryz.infoFm : (Tryz.prog.info? 26).map (fun i => (i.zero, i.size, i.bytes)) = some (some (.agg #[.int .i64 0, .string emp, .int .i64 0, .slice none 0 0, .slice none 0 0]), 5, 80) := by kernel_rfl
theorem wp_pushF {ops : Array Oper} {rest : List Oper} {o : Oper} {a : Act} {Q : Exit → Act → World → Prop} (Wc : World) (base : Nat) (hgd : o.guard = none) (s x : Operand)
    (ho : o.op = .call { callee := .builtin .append, args := #[s, x], argTypes := #[24, 24] }) (v : Value) (n : Nat) (O : List FV) (hs : a.eval s = v) (g : Nat) (d : FV) (hx : a.eval x = .slice (some ⟨g, 0, none⟩) 1 1)
    (hown : Wc.ownsRow base 26 5 v n (cellsF O)) (hR : Rb Wc g d.arr 26) (hbase : base ≤ Wc.heap.size) (hk : n ≤ 8192)
    (h : ∀ v' w', w'.ownsRow base 26 5 v' (n + 1) (cellsF (O ++ [d])) → KpB v.ownBlock Wc w' → (∀ q, v'.ownBlock = some q → v.ownBlock = some q ∨ Wc.heap.size ≤ q) → wpList Tryz.prog ops Q rest (a.put o.dst v') w') : wpList Tryz.prog ops Q (o :: rest) a Wc := by
  obtain ⟨i0, hi, hz0, hz1, hz2⟩ := info_parts Tryz.infoFm
  obtain ⟨v', w', hr, h2, h3, h4⟩ := run_append_where (P := Tryz.prog) base 24 o.type 26 i0 _ 5 80 Tryz.underlying24 hi hz0 hz1 hz2 rfl (by decide) v n (cellsF O) hown ⟨g, 0, none⟩ 1 1 d.cells rfl (by
    intro j u hj
    have hj5 : j < 5 := (List.getElem?_eq_some_iff.1 hj).1
    have key : Wc.cell? ⟨g, j, none⟩ = some u := by
      rcases (show j = 0 ∨ j = 1 ∨ j = 2 ∨ j = 3 ∨ j = 4 by omega) with rfl | rfl | rfl | rfl | rfl
      all_goals
        simp only [FV.cells] at hj
        exact (txcell hR _ u (by simpa using hj)).1
    rcases Nat.eq_zero_or_pos j with rfl | hp
    · exact key
    · simpa [Addr.add, Nat.ne_of_gt hp] using key) (by
    intro u hu
    simp only [FV.cells, List.mem_cons, List.not_mem_nil, or_false] at hu
    rcases hu with rfl | rfl | rfl | rfl | rfl <;> rfl) (by unfold maxLen; omega) (by omega) hbase
  refine wpList_plain hgd fun _ hK => ?_
  unfold Oper.wp execOp
  simp only [ho, resolve, invoke, builtin, Sem.run_bind, Sem.run_pure, Result.andThen_ok, List.map_toArray, List.map_cons, List.map_nil, hs, hx, hr]
  exact hK _ _ (h v' w' (by rw [cellsF, List.flatMap_append]; simpa [cellsF] using h2) h3 h4)
/-- but one block of ours, all that was is kept -/
theorem Bux.kp {b : Nat} {r : Option Nat} {W0 w w' : World} (h : Bux b W0 w) (hk : KpB r w w') (hr : ∀ q, r = some q → W0.heap.size ≤ q) : Bux b W0 w' :=
  ⟨hk.os.trans h.os, hk.tape.trans h.tape, hk.output.trans h.output, Nat.le_trans h.size hk.size, fun k hk0 hne => (hk.block k (Nat.lt_of_lt_of_le hk0 h.size) (fun e => by have := hr k e.symm; omega)).trans (h.block k hk0 hne)⟩
theorem Ds.kp {X : Rx} {w w' : World} {P : Pos} {r : Option Nat} (h : Ds X w P) (hk : KpB r w w') (hr : ∀ q, r = some q → X.W.heap.size ≤ q ∧ q ≠ X.b) : Ds X w' P := by
  have hB : Below X.W.heap.size w w' := ⟨hk.os, hk.tape, hk.output, hk.size, fun k hk0 => hk.block k (by have := h.below.size; omega) (fun e => by have := (hr k e.symm).1; omega)⟩
  exact ⟨h.words, h.new, h.below.trans hB, h.at'.same (hk.block X.b h.lt (fun e => (hr _ e.symm).2 rfl))⟩
theorem Rb.kp {w w' : World} {B : Nat} {vs : Array Value} {t : TypeId} {r : Option Nat} (h : Rb w B vs t) (hk : KpB r w w') (hne : some B ≠ r) : Rb w' B vs t := (hk.block B (Array.getElem?_eq_some_iff.1 h).1 hne).trans h
theorem Hi.kp {P : Nat → Prop} {r : Option Nat} {w w' : World} (hk : KpB r w w') (hP : ∀ k, P k → some k ≠ r) : Hi P w w' := ⟨hk.size, fun k h1 h2 => hk.block k h2 (hP k h1)⟩
end Go.Proofs.YtabfhdmcljdjhaaGreatDoor.Gl
