/- The document's Free. -/
import Derived.Test.YtiihabecncnbcaaTrK
import Derived.Deep.AppendLies
namespace Go.Proofs.Ytiihabecncnbcaa.Gl
open Go.RowKit
set_option linter.unusedVariables false

/-- does a quantifier of the name x leave s free? -/
def keepB (q : Bool) (x s : ByteArray) : Bool := !q || !(s.toList == x.toList)
mutual
def freeF : Fm → List ByteArray | .mk o x m t a => togL (namesTL t ++ freeFL (quant o) x a)
def freeFL (q : Bool) (x : ByteArray) : List Fm → List ByteArray | [] => [] | f :: r => (freeF f).filter (keepB q x) ++ freeFL q x r
end
theorem freeFL_len {q : Bool} {x : ByteArray} {l : List Fm} (h : ∀ f ∈ l, (freeF f).length ≤ f.size) : (freeFL q x l).length ≤ Fm.sizeL l := by
  induction l with
  | nil => rw [freeFL, Fm.sizeL]; exact Nat.le_refl _
  | cons t r ih =>
    rw [freeFL, Fm.sizeL, List.length_append]
    have := h t (List.mem_cons_self ..)
    have := ih (fun u hu => h u (List.mem_cons_of_mem _ hu))
    have := List.length_filter_le (keepB q x) (freeF t)
    omega
theorem freeF_len : ∀ f, (freeF f).length ≤ Fm.size f := by
  refine Fm.ind (fun o x m t a ih => ?_)
  rw [freeF, Fm.size]
  have h1 := tog_le (namesTL t ++ freeFL (quant o) x a)
  have h2 := namesTL_len (l := t) (fun t _ => namesT_len t)
  have h3 := freeFL_len (q := quant o) (x := x) ih
  rw [List.length_append] at h1
  omega
theorem freeFL_append (q : Bool) (x : ByteArray) (l r : List Fm) : freeFL q x (l ++ r) = freeFL q x l ++ freeFL q x r := by
  induction l with
  | nil => rw [List.nil_append, freeFL, List.nil_append]
  | cons t z ih => rw [List.cons_append, freeFL, freeFL, ih, List.append_assoc]
theorem freeFL_take (q : Bool) (x : ByteArray) (a : List Fm) (k : Nat) (h : k < a.length) : freeFL q x (a.take (k + 1)) = freeFL q x (a.take k) ++ (freeF a[k]).filter (keepB q x) := by
  rw [List.take_succ_eq_append_getElem h, freeFL_append, freeFL, freeFL, List.append_nil]
theorem Fm.sizeL_take (a : List Fm) (k : Nat) : Fm.sizeL (a.take k) ≤ Fm.sizeL a := by
  induction a generalizing k with
  | nil => simp
  | cons t r ih =>
    cases k with
    | zero => rw [List.take_zero, Fm.sizeL]; omega
    | succ k => rw [List.take_succ_cons, Fm.sizeL, Fm.sizeL]; have := ih k; omega
theorem filter_take (p : ByteArray → Bool) (L : List ByteArray) (k : Nat) (h : k < L.length) : (L.take (k + 1)).filter p = (L.take k).filter p ++ (if p (L.getD k emp) = true then [L.getD k emp] else []) := by
  rw [take_snoc L k h, List.filter_append]
  congr 1
  by_cases hp : p (L.getD k emp) = true
  · rw [if_pos hp, List.filter_cons_of_pos hp, List.filter_nil]
  · rw [if_neg hp, List.filter_cons_of_neg hp, List.filter_nil]
/-- the row that grows is the old one or new; all else of w2 is kept -/
structure Apart (w2 : World) (b0 : Option Nat) (wr : World) (v : Value) : Prop where
  size : w2.heap.size ≤ wr.heap.size
  block : ∀ b, b < w2.heap.size → b0 ≠ some b → wr.heap[b]? = w2.heap[b]?
  own : v.ownBlock = b0 ∨ ∃ g, v.ownBlock = some g ∧ w2.heap.size ≤ g
theorem Apart.refl (w : World) (v : Value) : Apart w v.ownBlock w v := ⟨Nat.le_refl _, fun _ _ _ => rfl, .inl rfl⟩
theorem Apart.alloc {w2 wr : World} {b0 : Option Nat} {v : Value} (h : Apart w2 b0 wr v) (o : Obj) : Apart w2 b0 (wr.alloc o) v :=
  ⟨by have := h.size; simp; omega, fun b hb hn => (heap_alloc_old _ _ (Nat.lt_of_lt_of_le hb h.size)).trans (h.block b hb hn), h.own⟩
theorem Apart.drewn {w2 wr : World} {b0 : Option Nat} {v : Value} (h : Apart w2 b0 wr v) (n : Nat) : Apart w2 b0 (wr.drewN n) v := ⟨h.size, h.block, h.own⟩
theorem Apart.grown {w2 wr w3 : World} {b0 : Option Nat} {v : Value} {g n c : Nat} (h : Apart w2 b0 wr v) (hg : wr.grownBy w3 v.ownBlock) (hat : v.ownBlock = some g ∨ g = wr.heap.size) : Apart w2 b0 w3 (.slice (some ⟨g, 0, none⟩) n c) := by
  refine ⟨Nat.le_trans h.size hg.size, fun b hb hn => ?_, ?_⟩
  · refine (hg.block b (Nat.lt_of_lt_of_le hb h.size) (fun e => ?_)).trans (h.block b hb hn)
    rcases h.own with k | ⟨g', k, hk⟩
    · exact hn (k.symm.trans e.symm)
    · rw [k] at e
      have : b = g' := by simpa using e
      omega
  · rcases hat with k | rfl
    · rcases h.own with k' | ⟨g', k', hk⟩
      · exact .inl (by rw [← k', k]; rfl)
      · exact .inr ⟨g', by rw [← k', k]; rfl, hk⟩
    · exact .inr ⟨_, rfl, h.size⟩
theorem Apart.rds {w2 wr : World} {b0 : Option Nat} {v : Value} {ro : Option Addr} {n c : Nat} {L : List ByteArray} (h : Apart w2 b0 wr v) (hR : RdS w2 ro n c L) (hb : ∀ g of fz, ro = some ⟨g, of, fz⟩ → b0 ≠ some g) : RdS wr ro n c L := by
  refine ⟨hR.eqlen, hR.lecap, hR.lemax, hR.isnil, fun i hi => ?_⟩
  obtain ⟨g, of, e, hc⟩ := hR.cell i hi
  exact ⟨g, of, e, (World.cell?_of_block (h.block g (World.block_lt_of_cell? _ _ hc) (hb g of none e))).trans hc⟩
theorem wp_pushL {ops : Array Oper} {rest : List Oper} {o : Oper} {a : Act} {Q : Exit → Act → World → Prop} (W0 Wc : World) (B base : Nat) (hgd : o.guard = none) (s x : Operand)
    (ho : o.op = .call { callee := .builtin .append, args := #[s, x], argTypes := #[28, 28] }) (v : Value) (k : Nat) (O : List ByteArray) (hs : a.eval s = v) (g0 : Nat) (d : ByteArray) (hx : a.eval x = .slice (some ⟨g0, 0, none⟩) 1 1)
    (hown : Wc.ownsRow base 9 1 v k (cellsS O)) (hcell : Wc.cell? ⟨g0, 0, none⟩ = some (.string d)) (hbase : base ≤ Wc.heap.size) (hk : (k + 1) * 16 ≤ 140737488355328) (hbel : Below B W0 Wc) (hB : B ≤ base)
    (h : ∀ g c w', w'.ownsRow base 9 1 (.slice (some ⟨g, 0, none⟩) (k + 1) c) (k + 1) (cellsS (O ++ [d])) → Below B W0 w' → Wc.grownBy w' v.ownBlock → (v.ownBlock = some g ∨ g = Wc.heap.size) → wpList Try.prog ops Q rest (a.put o.dst (.slice (some ⟨g, 0, none⟩) (k + 1) c)) w') : wpList Try.prog ops Q (o :: rest) a Wc := by
  obtain ⟨i0, hi, hz0, hz1, hz2⟩ := info_parts Try.infoStr
  refine wpList_append_lies _ hgd s x 28 ho base 9 i0 (.string emp) 1 16 Try.underlying28 hi hz0 hz1 hz2 rfl (by decide) _ k _ hs hown ⟨g0, 0, none⟩ 1 1 [.string d] hx rfl ?_ ?_ (by decide) (by unfold maxLen; omega) (by omega) hbase _ rfl ?_
  · intro j u hj
    match j, hj with
    | 0, hj => simp at hj; subst hj; simpa [Addr.add] using hcell
  · intro u hu; simp at hu; subst hu; rfl
  · intro g c w' h1 h2 h3 _
    refine h g c w' (by simpa [cellsS] using h1) (hbel.grown h2 (by omega) ?_) h2 h3
    intro q hq
    have := hown.lt q hq
    omega
end Go.Proofs.Ytiihabecncnbcaa.Gl
