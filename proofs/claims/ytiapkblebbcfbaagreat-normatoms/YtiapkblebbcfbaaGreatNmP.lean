/- Blocks, rows of numbers, in memory. -/
import Derived.Test.YtiapkblebbcfbaaGreatGlW
import Derived.WalkKit
import Derived.WalkLawsBesides
import Derived.WalkSpells
import Derived.Laws.AppendOwnNone
import Derived.OneCell
import Derived.OwnWalk
import Derived.Laws.OwnMore
import Derived.Deep.RegionWith
namespace Go.Proofs.YtiapkblebbcfbaaGreat.Gl
open Go.RowKit
set_option linter.unusedVariables false

theorem mkHid {p : Prop} (h : p) : Hid p := h
/-- all but block b is kept -/
structure Bux (b : Nat) (w w' : World) : Prop where
  os : w'.os = w.os
  tape : w'.tape = w.tape
  output : w'.output = w.output
  size : w.heap.size ≤ w'.heap.size
  block : ∀ k, k < w.heap.size → k ≠ b → w'.heap[k]? = w.heap[k]?
theorem Bux.refl (b : Nat) (w : World) : Bux b w w := ⟨rfl, rfl, rfl, Nat.le_refl _, fun _ _ _ => rfl⟩
theorem Bux.trans {b : Nat} {w w1 w2 : World} (h : Bux b w w1) (k : Bux b w1 w2) : Bux b w w2 :=
  ⟨k.os.trans h.os, k.tape.trans h.tape, k.output.trans h.output, Nat.le_trans h.size k.size, fun i hi hn => (k.block i (Nat.lt_of_lt_of_le hi h.size) hn).trans (h.block i hi hn)⟩
theorem Bux.of {b : Nat} {w w' : World} (h : Below w.heap.size w w') : Bux b w w' := ⟨h.os, h.tape, h.output, h.size, fun i hi _ => h.block i hi⟩
theorem Bux.below {b B : Nat} {w w' : World} (h : Bux b w w') (hb : B ≤ b) (hs : B ≤ w.heap.size) : Below B w w' :=
  ⟨h.os, h.tape, h.output, h.size, fun i hi => h.block i (by omega) (by omega)⟩
theorem Bux.set {b : Nat} {w w' : World} (h : Bux b w w') (o : Nat) (v : Value) : Bux b w (w'.setCell ⟨b, o, none⟩ v) :=
  h.trans ⟨rfl, rfl, rfl, by simp [World.setCell], fun k hk hn => Below.heap_setCell _ _ _ _ hn⟩
theorem txcell {w : World} {b : Nat} {vs : Array Value} {t : TypeId} (h : w.heap[b]? = some (Obj.cells vs t)) (i : Nat) (v : Value) (hv : vs[i]? = some v) : w.cell? ⟨b, i, none⟩ = some v ∧ w.frozen? ⟨b, i, none⟩ = false := by
  constructor <;> simp [World.cell?, World.frozen?, h, hv]
theorem tx_set {w : World} {b : Nat} {vs : Array Value} {t : TypeId} (h : w.heap[b]? = some (Obj.cells vs t)) (i : Nat) (v : Value) : (w.setCell ⟨b, i, none⟩ v).heap[b]? = some (Obj.cells (vs.setIfInBounds i v) t) := by
  obtain ⟨hlt, hk⟩ := Array.getElem?_eq_some_iff.1 h
  show (w.heap.modify b _)[b]? = _
  rw [Array.getElem?_eq_getElem (by rw [Array.size_modify]; exact hlt), Array.getElem_modify_self, hk]
  rfl
/-- a block of a result -/
def Rb (w : World) (B : Nat) (vs : Array Value) (t : TypeId) : Prop := w.heap[B]? = some (Obj.cells vs t)
theorem Rb.keep {w w' : World} {B : Nat} {vs : Array Value} {t : TypeId} (h : Rb w B vs t) (hb : Below w.heap.size w w') : Rb w' B vs t := (hb.block B (Array.getElem?_eq_some_iff.1 h).1).trans h
theorem Rb.but {w w' : World} {B b : Nat} {vs : Array Value} {t : TypeId} (h : Rb w B vs t) (hb : Bux b w w') (hne : B ≠ b) : Rb w' B vs t := (hb.block B (Array.getElem?_eq_some_iff.1 h).1 hne).trans h
theorem but_new {b B : Nat} {w w' : World} (h : Bux b w w') (hB : w.heap.size ≤ B) (i : Nat) (v : Value) : Bux b w (w'.setCell ⟨B, i, none⟩ v) :=
  ⟨h.os, h.tape, h.output, Nat.le_trans h.size ((Below.refl 0 w').setCell (p := ⟨B, i, none⟩) (Nat.zero_le _) v).size, fun k hk hne => (Below.heap_setCell _ _ _ k (by simp; omega)).trans (h.block k hk hne)⟩
theorem rb_new (w : World) (vs : Array Value) (t : TypeId) : Rb (w.alloc (.cells vs t)) w.heap.size vs t := by
  show (w.heap.push _)[w.heap.size]? = _
  simp
theorem bal (w : World) (o : Obj) : Below w.heap.size w (w.alloc o) := (Below.refl _ _).alloc (Nat.le_refl _) _
theorem rb_four {w : World} {B : Nat} {vs : Array Value} {t : TypeId} (h : Rb w B vs t) (hs : vs.size = 4) (v0 v1 v2 v3 : Value) : Rb ((((w.setCell ⟨B, 0, none⟩ v0).setCell ⟨B, 1, none⟩ v1).setCell ⟨B, 2, none⟩ v2).setCell ⟨B, 3, none⟩ v3) B #[v0, v1, v2, v3] t := by
  have h1 := tx_set (tx_set (tx_set (tx_set h 0 v0) 1 v1) 2 v2) 3 v3
  have e : (((vs.setIfInBounds 0 v0).setIfInBounds 1 v1).setIfInBounds 2 v2).setIfInBounds 3 v3 = #[v0, v1, v2, v3] := by
    apply Array.ext
    · simp [hs]
    · intro i hi1 hi2
      simp only [Array.size_setIfInBounds, hs] at hi1
      rcases (show i = 0 ∨ i = 1 ∨ i = 2 ∨ i = 3 by omega) with rfl | rfl | rfl | rfl <;> simp [hs]
  rw [e] at h1
  exact h1
theorem Rb.other {w : World} {B X : Nat} {vs : Array Value} {t : TypeId} (h : Rb w B vs t) (hne : B ≠ X) (i : Nat) (v : Value) : Rb (w.setCell ⟨X, i, none⟩ v) B vs t := (Below.heap_setCell _ _ _ B hne).trans h
theorem rb_five {w : World} {B : Nat} {vs : Array Value} {t : TypeId} (h : Rb w B vs t) (hs : vs.size = 5) (v0 v1 v2 v3 v4 : Value) : Rb (((((w.setCell ⟨B, 0, none⟩ v0).setCell ⟨B, 1, none⟩ v1).setCell ⟨B, 2, none⟩ v2).setCell ⟨B, 3, none⟩ v3).setCell ⟨B, 4, none⟩ v4) B #[v0, v1, v2, v3, v4] t := by
  have h1 := tx_set (tx_set (tx_set (tx_set (tx_set h 0 v0) 1 v1) 2 v2) 3 v3) 4 v4
  have e : ((((vs.setIfInBounds 0 v0).setIfInBounds 1 v1).setIfInBounds 2 v2).setIfInBounds 3 v3).setIfInBounds 4 v4 = #[v0, v1, v2, v3, v4] := by
    apply Array.ext
    · simp [hs]
    · intro i hi1 hi2
      simp only [Array.size_setIfInBounds, hs] at hi1
      rcases (show i = 0 ∨ i = 1 ∨ i = 2 ∨ i = 3 ∨ i = 4 by omega) with rfl | rfl | rfl | rfl | rfl <;> simp [hs]
  rw [e] at h1
  exact h1
abbrev st4 (w : World) (B : Nat) (v0 v1 v2 v3 : Value) : World := (((w.setCell ⟨B, 0, none⟩ v0).setCell ⟨B, 1, none⟩ v1).setCell ⟨B, 2, none⟩ v2).setCell ⟨B, 3, none⟩ v3
theorem Bux.st4 {b B : Nat} {w w' : World} (h : Bux b w w') (hB : w.heap.size ≤ B) (v0 v1 v2 v3 : Value) : Bux b w (st4 w' B v0 v1 v2 v3) := but_new (but_new (but_new (but_new h hB 0 v0) hB 1 v1) hB 2 v2) hB 3 v3
theorem Rb.st4 {w : World} {B X : Nat} {vs : Array Value} {t : TypeId} (h : Rb w B vs t) (hne : B ≠ X) (v0 v1 v2 v3 : Value) : Rb (st4 w X v0 v1 v2 v3) B vs t := (((h.other hne 0 v0).other hne 1 v1).other hne 2 v2).other hne 3 v3
abbrev st5 (w : World) (B : Nat) (v0 v1 v2 v3 v4 : Value) : World := (st4 w B v0 v1 v2 v3).setCell ⟨B, 4, none⟩ v4
theorem Rb.st5 {w : World} {B X : Nat} {vs : Array Value} {t : TypeId} (h : Rb w B vs t) (hne : B ≠ X) (v0 v1 v2 v3 v4 : Value) : Rb (st5 w X v0 v1 v2 v3 v4) B vs t := (h.st4 hne v0 v1 v2 v3).other hne 4 v4
abbrev st3 (w : World) (B : Nat) (v0 v1 v2 : Value) : World := ((w.setCell ⟨B, 0, none⟩ v0).setCell ⟨B, 1, none⟩ v1).setCell ⟨B, 2, none⟩ v2
theorem rb_three {w : World} {B : Nat} {vs : Array Value} {t : TypeId} (h : Rb w B vs t) (hs : vs.size = 3) (v0 v1 v2 : Value) : Rb (st3 w B v0 v1 v2) B #[v0, v1, v2] t := by
  have h1 := tx_set (tx_set (tx_set h 0 v0) 1 v1) 2 v2
  have e : ((vs.setIfInBounds 0 v0).setIfInBounds 1 v1).setIfInBounds 2 v2 = #[v0, v1, v2] := by
    apply Array.ext
    · simp [hs]
    · intro i hi1 hi2
      simp only [Array.size_setIfInBounds, hs] at hi1
      rcases (show i = 0 ∨ i = 1 ∨ i = 2 by omega) with rfl | rfl | rfl <;> simp [hs]
  rw [e] at h1
  exact h1
theorem Rb.st3 {w : World} {B X : Nat} {vs : Array Value} {t : TypeId} (h : Rb w B vs t) (hne : B ≠ X) (v0 v1 v2 : Value) : Rb (st3 w X v0 v1 v2) B vs t := ((h.other hne 0 v0).other hne 1 v1).other hne 2 v2
theorem bel_st3 {b B : Nat} {w w' : World} (h : Below b w w') (hB : b ≤ B) (v0 v1 v2 : Value) : Below b w (st3 w' B v0 v1 v2) := ((h.setCell (p := ⟨B, 0, none⟩) hB v0).setCell (p := ⟨B, 1, none⟩) hB v1).setCell (p := ⟨B, 2, none⟩) hB v2
theorem rdz_nil (w : World) : RdZ w none 0 0 [] := ⟨rfl, Nat.le_refl _, by omega, fun _ => rfl, fun i hi => by omega⟩
theorem rdz_of_owns {w : World} {base : Nat} {t : TypeId} {v : Value} {k : Nat} {zs : List Int} (h : w.ownsRow base t 1 v k (cellsZ zs)) : ∃ ro cr, v = .slice ro k cr ∧ RdZ w ro k cr zs := by
  have h' := h
  obtain ⟨hl, hv⟩ := h'
  simp only [List.length_map, Nat.mul_one] at hl
  rcases hv with ⟨rfl, hn⟩ | ⟨g, cap, cur, rfl, hg, hh, hnc, hcm, hcs, hx⟩
  · subst hn
    exact ⟨none, 0, rfl, hl, Nat.le_refl _, by omega, fun _ => rfl, fun i hi => by omega⟩
  · refine ⟨some ⟨g, 0, none⟩, cap, rfl, hl, hnc, hcm, (fun h => nomatch h), (fun i hi => ⟨g, 0, rfl, ?_⟩)⟩
    rw [Nat.zero_add, h.cellAt i (by omega), List.getElem?_map, List.getElem?_eq_getElem (by omega)]
    simp [List.getD_eq_getElem?_getD, List.getElem?_eq_getElem (show i < zs.length by omega)]
theorem ownsZ_cell {w : World} {base g n cap : Nat} {t : TypeId} {O : List Int} (h : w.ownsRow base t 1 (.slice (some ⟨g, 0, none⟩) n cap) n (cellsZ O)) (p : Nat) (hp : p < n) : w.cell? ⟨g, p, none⟩ = some (.int .i64 (O.getD p 0)) := by
  have hl := h.1
  simp only [List.length_map, Nat.mul_one] at hl
  rw [h.cellAt p (by omega), List.getElem?_map, List.getElem?_eq_getElem (by omega)]
  simp [List.getD_eq_getElem?_getD, List.getElem?_eq_getElem (show p < O.length by omega)]
theorem made_zeros (n : Nat) : (madeCells (Value.int .i64 0).cells (n * 1)).toList = cellsZ (List.replicate n 0) := by
  show (madeCells #[Value.int .i64 0] (n * 1)).toList = _
  rw [toList_madeCells_one]; simp [cellsZ]
theorem Tryz.infoI64 : (Tryz.prog.info? 2).map (fun i => (i.zero, i.size, i.bytes)) = some (some (.int .i64 0), 1, 8) := by kernel_rfl
/-- zs with its first k numbers those of us -/
def front (us zs : List Int) (k : Nat) : List Int := us.take k ++ zs.drop k
theorem front_set (us zs : List Int) (k : Nat) (h : us.length = zs.length) (hk : k < us.length) : (front us zs k).set k (us.getD k 0) = front us zs (k + 1) := by
  unfold front
  rw [List.set_append_right _ _ (by rw [List.length_take]; omega), List.length_take, Nat.min_eq_left (by omega), Nat.sub_self, List.drop_eq_getElem_cons (show k < zs.length by omega), List.set_cons_zero, List.take_succ_eq_append_getElem hk, getD_of hk, List.append_assoc, List.singleton_append]
theorem front_zero (us zs : List Int) : front us zs 0 = zs := by simp [front]
theorem front_all (us zs : List Int) (n : Nat) (h : us.length = n) (h' : zs.length = n) : front us zs n = us := by
  unfold front; rw [List.take_of_length_le (by omega), List.drop_of_length_le (by omega), List.append_nil]
theorem cells_set (O : List Int) (p : Nat) (q : Int) : (cellsZ O).set p (.int .i64 q) = cellsZ (O.set p q) := by unfold cellsZ; rw [List.map_set]
theorem of_eq {B : Nat} {w w' : World} (h : w = w') : Below B w w' := by subst h; exact Below.refl _ _
/-- 'out = append(out, d)', the new element in a block g of its own -/
theorem wp_pushQ {ops : Array Oper} {rest : List Oper} {o : Oper} {a : Act} {Q : Exit → Act → World → Prop} (W0 Wc : World) (B base : Nat) (hgd : o.guard = none) (s x : Operand)
    (ho : o.op = .call { callee := .builtin .append, args := #[s, x], argTypes := #[27, 27] }) (v : Value) (k : Nat) (O : List Int) (hs : a.eval s = v) (g : Nat) (d : Int) (hx : a.eval x = .slice (some ⟨g, 0, none⟩) 1 1)
    (hown : Wc.ownsRow base 2 1 v k (cellsZ O)) (hcell : Wc.cell? ⟨g, 0, none⟩ = some (.int .i64 d)) (hbase : base ≤ Wc.heap.size) (hk : (k + 1) * 8 ≤ 140737488355328) (hbel : Below B W0 Wc) (hB : B ≤ base)
    (h : ∀ v' w', w'.ownsRow base 2 1 v' (k + 1) (cellsZ (O ++ [d])) → Below B W0 w' → wpList Tryz.prog ops Q rest (a.put o.dst v') w') : wpList Tryz.prog ops Q (o :: rest) a Wc := by
  obtain ⟨i0, hi, hz0, hz1, hz2⟩ := info_parts Tryz.infoI64
  refine wpList_append_own _ hgd s x 27 ho base 2 i0 (.int .i64 0) 1 8 Tryz.underlying27 hi hz0 hz1 hz2 rfl (by decide) _ k _ hs hown ⟨g, 0, none⟩ 1 1 [.int .i64 d] hx rfl ?_ ?_ (by unfold maxLen; omega) (by omega) hbase ?_
  · intro j u hj
    match j, hj with
    | 0, hj => simp at hj; subst hj; simpa [Addr.add] using hcell
  · intro u hu; simp at hu; subst hu; rfl
  · intro v' w' h1 h2 _
    refine h v' w' (by simpa [cellsZ] using h1) (hbel.grown h2 (by omega) ?_)
    intro q hq
    have := hown.lt q hq
    omega
/-- 'append([]int{}, x...)': a new slice of the same numbers; nothing old has turned. -/
theorem wp_copyQ {ops : Array Oper} {rest : List Oper} {o : Oper} {a : Act} {Q : Exit → Act → World → Prop} (w0 W : World) (hgd : o.guard = none) (s x : Operand)
    (ho : o.op = .call { callee := .builtin .append, args := #[s, x], argTypes := #[27, 27] }) (hbel : Below w0.heap.size w0 W)
    (hs : a.eval s = .slice (some ⟨W.heap.size, 0, none⟩) 0 0) (ao : Option Addr) (m c : Nat) (zs : List Int) (hx : a.eval x = .slice ao m c) (hR : RdZ W ao m c zs) (hm : m * 8 ≤ 140737488351232)
    (h : ∀ a' c' w', RdZ w' a' m c' zs → Below W.heap.size W w' → w'.ownsRow W.heap.size 2 1 (.slice a' m c') m (cellsZ zs) → wpList Tryz.prog ops Q rest (a.put o.dst (.slice a' m c')) w') : wpList Tryz.prog ops Q (o :: rest) a (W.alloc (.cells #[] 2)) := by
  obtain ⟨i0, hi, hz0, hz1, hz2⟩ := info_parts Tryz.infoI64
  have hown := World.ownsRow_made (base := W.heap.size) (e := 2) (size := 1) W #[] 0 (Nat.le_refl _) (Nat.zero_le _) (by simp)
  cases ao with
  | none =>
    have hc0 := hR.isnil rfl
    have hl := hR.lecap
    obtain rfl : c = 0 := hc0
    obtain rfl : m = 0 := by omega
    have hz : zs = [] := List.length_eq_zero_iff.1 hR.eqlen
    subst hz
    refine wpList_append_own_none hgd s x 27 ho W.heap.size 2 i0 1 Tryz.underlying27 hi _ 0 [] hs hown hx ?_
    obtain ⟨ro, cr, hv, hR'⟩ := rdz_of_owns (zs := []) (by simpa using hown)
    rw [hv]
    exact h _ _ _ hR' ((Below.refl _ _).alloc (Nat.le_refl _) _) (by rw [← hv]; exact hown)
  | some ad =>
    refine wpList_append_own _ hgd s x 27 ho W.heap.size 2 i0 (.int .i64 0) 1 8 Tryz.underlying27 hi hz0 hz1 hz2 rfl (by decide) _ 0 [] hs hown ad m c (cellsZ zs) hx (by simp [hR.eqlen]) ?_ (ints_oneCell _ _) (by unfold maxLen; omega) (by omega) ?_ ?_
    · intro j u hj
      rw [List.getElem?_map] at hj
      by_cases hjl : j < zs.length
      · rw [List.getElem?_eq_getElem hjl] at hj
        simp only [Option.map_some, Option.some.injEq] at hj
        subst hj
        obtain ⟨b, off, e, h1⟩ := hR.cell j (by rw [← hR.eqlen]; exact hjl)
        simp only [Option.some.injEq] at e
        subst e
        rw [List.getD_eq_getElem?_getD, List.getElem?_eq_getElem hjl] at h1
        rw [Go.WideShapes.add_plain, World.cell?_of_block (Below.heap_alloc _ _ _ (World.block_lt_of_cell? _ _ h1))]
        exact h1
      · rw [List.getElem?_eq_none (by omega)] at hj
        simp at hj
    · rw [World.size_alloc]; omega
    · intro v' w' h2 h3 h4
      rw [List.nil_append, Nat.zero_add] at h2
      obtain ⟨ro, cr, rfl, hR'⟩ := rdz_of_owns h2
      refine h _ _ w' hR' ?_ h2
      refine ((Below.refl _ _).alloc (Nat.le_refl _) _).grown h3 (by rw [World.size_alloc]; omega) ?_
      intro k hk
      simp only [Value.ownBlock, Option.some.injEq] at hk
      omega
end Go.Proofs.YtiapkblebbcfbaaGreat.Gl
