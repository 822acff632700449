/- Slices of numbers and of cubes that read as lists. -/
import Derived.Test.YthkabeaecfiinaaProg
import Derived.WalkKit
import Derived.WalkLawsBesides
import Derived.WalkSpells
import Derived.Laws.AppendOwnNone
import Derived.Laws.BitsAllLaws
import Derived.Deep.Light
import Derived.OneCell
import Derived.OwnWalk
import Derived.Laws.OwnMore
import Derived.RegionTactic
import Derived.ChangeAlike
import Derived.Deep.QuietTactic
import Derived.BigQuiet
import Derived.Below
import Derived.Laws.StructEq
namespace Go.Proofs.Ythkabeaecfiinaa.Ro
open Go.RowKit
set_option linter.unusedVariables false

theorem ret1 {a c : Int} (h : a = c) : Ending.returned (.int .i64 a) = .returned (.int .i64 c) := by rw [h]
theorem retb {a c : Bool} (h : a = c) : Ending.returned (.bool a) = .returned (.bool c) := by rw [h]
theorem mkHid {p : Prop} (h : p) : Hid p := h
theorem bt2 {w w1 w2 : World} (h : Below w.heap.size w w1) (k : Below w1.heap.size w1 w2) : Below w.heap.size w w2 := h.trans (k.mono h.size)
theorem bta {w w1 : World} (h : Below w.heap.size w w1) (o : Obj) : Below w.heap.size w (w1.alloc o) := h.alloc h.size o
theorem bal (w : World) (o : Obj) : Below w.heap.size w (w.alloc o) := (Below.refl _ _).alloc (Nat.le_refl _) _
theorem below_drewn {B : Nat} {w w1 : World} (h : Below B w w1) (n : Nat) : Below B w (w1.drewN n) := h.trans ⟨rfl, rfl, rfl, Nat.le_refl _, fun _ _ => rfl⟩
theorem getD_of {zs : List Int} {i : Nat} (h : i < zs.length) : zs.getD i 0 = zs[i] := by
  rw [List.getD_eq_getElem?_getD, List.getElem?_eq_getElem h, Option.getD_some]
/-- the slice reads as the numbers zs -/
structure RdZ (w : World) (ao : Option Addr) (len cap : Nat) (zs : List Int) : Prop where
  eqlen : zs.length = len
  lecap : len ≤ cap
  lemax : cap ≤ 9223372036854775807
  isnil : ao = none → cap = 0
  cell : ∀ i, i < len → ∃ b off, ao = some ⟨b, off, none⟩ ∧ w.cell? ⟨b, off + i, none⟩ = some (.int .i64 (zs.getD i 0))
theorem RdZ.below {w w' : World} {ao : Option Addr} {len cap : Nat} {zs : List Int} (h : RdZ w ao len cap zs) {B : Nat} (hB : w.heap.size ≤ B) (hb : Below B w w') : RdZ w' ao len cap zs := by
  refine ⟨h.eqlen, h.lecap, h.lemax, h.isnil, fun i hi => ?_⟩
  obtain ⟨b, off, rfl, hc⟩ := h.cell i hi
  have hlt := World.block_lt_of_cell? _ _ hc
  exact ⟨b, off, rfl, (hb.cell (p := ⟨b, off + i, none⟩) (Nat.lt_of_lt_of_le hlt hB)).trans hc⟩
theorem rdz_nil (w : World) : RdZ w none 0 0 [] := ⟨rfl, Nat.le_refl _, by omega, fun _ => rfl, fun i hi => by omega⟩
abbrev cellsZ (zs : List Int) : List Value := zs.map (Value.int .i64)
theorem rdz_of_owns {w : World} {base : Nat} {t : TypeId} {v : Value} {k : Nat} {zs : List Int} (h : w.ownsRow base t 1 v k (cellsZ zs)) : ∃ ro cr, v = .slice ro k cr ∧ RdZ w ro k cr zs := by
  have h' := h
  obtain ⟨hl, hv⟩ := h'
  simp only [List.length_map, Nat.mul_one] at hl
  rcases hv with ⟨rfl, hn⟩ | ⟨g, cap, cur, rfl, hg, hh, hnc, hcm, hcs, hx⟩
  · subst hn
    exact ⟨none, 0, rfl, hl, Nat.le_refl _, by omega, fun _ => rfl, fun i hi => by omega⟩
  · refine ⟨some ⟨g, 0, none⟩, cap, rfl, hl, hnc, hcm, (fun h => nomatch h), (fun i hi => ⟨g, 0, rfl, ?_⟩)⟩
    rw [Nat.zero_add, h.cellAt i (by omega), List.getElem?_map, List.getElem?_eq_getElem (by omega)]
    simp [List.getD_eq_getElem?_getD, List.getElem?_eq_getElem (show i < zs.length by omega)]
theorem ownsZ_cell {w : World} {base g n cap : Nat} {t : TypeId} {O : List Int} (h : w.ownsRow base t 1 (.slice (some ⟨g, 0, none⟩) n cap) n (cellsZ O)) (p : Nat) (hp : p < n) : w.cell? ⟨g, p, none⟩ = some (.int .i64 (O.getD p 0)) := by
  have hl := h.1
  simp only [List.length_map, Nat.mul_one] at hl
  rw [h.cellAt p (by omega), List.getElem?_map, List.getElem?_eq_getElem (by omega)]
  simp [List.getD_eq_getElem?_getD, List.getElem?_eq_getElem (show p < O.length by omega)]
theorem made_zeros (n : Nat) : (madeCells (Value.int .i64 0).cells (n * 1)).toList = cellsZ (List.replicate n 0) := by
  show (madeCells #[Value.int .i64 0] (n * 1)).toList = _
  rw [toList_madeCells_one]; simp [cellsZ]
theorem Try.infoInt : (Try.prog.info? 3).map (fun i => (i.zero, i.size, i.bytes)) = some (some (.int .i64 0), 1, 8) := by kernel_rfl
theorem cells_set (O : List Int) (p : Nat) (q : Int) : (cellsZ O).set p (.int .i64 q) = cellsZ (O.set p q) := by unfold cellsZ; rw [List.map_set]

theorem owns_below {w w' : World} {base : Nat} {e : TypeId} {v : Value} {n : Nat} {xs : List Value} (h : w.ownsRow base e 1 v n xs) (hb : Below w.heap.size w w') : w'.ownsRow base e 1 v n xs := by
  refine ⟨h.1, ?_⟩
  rcases h.2 with hn | ⟨g, cap, cur, rfl, hbg, hgg, rest⟩
  · exact .inl hn
  · refine .inr ⟨g, cap, cur, rfl, hbg, ?_, rest⟩
    rw [hb.block g (Array.getElem?_eq_some_iff.1 hgg).1]
    exact hgg
theorem of_eq {B : Nat} {w w' : World} (h : w = w') : Below B w w' := by subst h; exact Below.refl _ _
theorem cell_new1 (W : World) (v : Value) (t : TypeId) : (W.alloc (.cells #[v] t)).cell? ⟨W.heap.size, 0, none⟩ = some v := by simp
theorem size_new1 {W : World} {n : Nat} (h : n ≤ W.heap.size) (a : Obj) : n ≤ (W.alloc a).heap.size := by simp; omega
/-- 'out = append(out, d)', the new element in a block g of its own -/
theorem wp_pushZ {ops : Array Oper} {rest : List Oper} {o : Oper} {a : Act} {Q : Exit → Act → World → Prop} (W0 Wc : World) (B base : Nat) (hgd : o.guard = none) (s x : Operand)
    (ho : o.op = .call { callee := .builtin .append, args := #[s, x], argTypes := #[22, 22] }) (v : Value) (k : Nat) (O : List Int) (hs : a.eval s = v) (g : Nat) (d : Int) (hx : a.eval x = .slice (some ⟨g, 0, none⟩) 1 1)
    (hown : Wc.ownsRow base 3 1 v k (cellsZ O)) (hcell : Wc.cell? ⟨g, 0, none⟩ = some (.int .i64 d)) (hbase : base ≤ Wc.heap.size) (hk : (k + 1) * 8 ≤ 140737488355328) (hbel : Below B W0 Wc) (hB : B ≤ base)
    (h : ∀ v' w', w'.ownsRow base 3 1 v' (k + 1) (cellsZ (O ++ [d])) → Below B W0 w' → wpList Try.prog ops Q rest (a.put o.dst v') w') : wpList Try.prog ops Q (o :: rest) a Wc := by
  obtain ⟨i0, hi, hz0, hz1, hz2⟩ := info_parts Try.infoInt
  refine wpList_append_own _ hgd s x 22 ho base 3 i0 (.int .i64 0) 1 8 Try.underlying22 hi hz0 hz1 hz2 rfl (by decide) _ k _ hs hown ⟨g, 0, none⟩ 1 1 [.int .i64 d] hx rfl ?_ ?_ (by unfold maxLen; omega) (by omega) hbase ?_
  · intro j u hj
    match j, hj with
    | 0, hj => simp at hj; subst hj; simpa [Addr.add] using hcell
  · intro u hu; simp at hu; subst hu; rfl
  · intro v' w' h1 h2 _
    refine h v' w' (by simpa [cellsZ] using h1) (hbel.grown h2 (by omega) ?_)
    intro q hq
    have := hown.lt q hq
    omega
/-- 'append([]int{}, x...)': a new slice of the same numbers; nothing old has turned. -/
theorem wp_copyZ {ops : Array Oper} {rest : List Oper} {o : Oper} {a : Act} {Q : Exit → Act → World → Prop} (w0 W : World) (hgd : o.guard = none) (s x : Operand)
    (ho : o.op = .call { callee := .builtin .append, args := #[s, x], argTypes := #[22, 22] }) (hbel : Below w0.heap.size w0 W)
    (hs : a.eval s = .slice (some ⟨W.heap.size, 0, none⟩) 0 0) (ao : Option Addr) (m c : Nat) (zs : List Int) (hx : a.eval x = .slice ao m c) (hR : RdZ W ao m c zs) (hm : m * 8 ≤ 140737488351232)
    (h : ∀ a' c' w', RdZ w' a' m c' zs → Below W.heap.size W w' → w'.ownsRow W.heap.size 3 1 (.slice a' m c') m (cellsZ zs) → wpList Try.prog ops Q rest (a.put o.dst (.slice a' m c')) w') : wpList Try.prog ops Q (o :: rest) a (W.alloc (.cells #[] 3)) := by
  obtain ⟨i0, hi, hz0, hz1, hz2⟩ := info_parts Try.infoInt
  have hown := World.ownsRow_made (base := W.heap.size) (e := 3) (size := 1) W #[] 0 (Nat.le_refl _) (Nat.zero_le _) (by simp)
  cases ao with
  | none =>
    have hc0 := hR.isnil rfl
    have hl := hR.lecap
    obtain rfl : c = 0 := hc0
    obtain rfl : m = 0 := by omega
    have hz : zs = [] := List.length_eq_zero_iff.1 hR.eqlen
    subst hz
    refine wpList_append_own_none hgd s x 22 ho W.heap.size 3 i0 1 Try.underlying22 hi _ 0 [] hs hown hx ?_
    obtain ⟨ro, cr, hv, hR'⟩ := rdz_of_owns (zs := []) (by simpa using hown)
    rw [hv]
    exact h _ _ _ hR' ((Below.refl _ _).alloc (Nat.le_refl _) _) (by rw [← hv]; exact hown)
  | some ad =>
    refine wpList_append_own _ hgd s x 22 ho W.heap.size 3 i0 (.int .i64 0) 1 8 Try.underlying22 hi hz0 hz1 hz2 rfl (by decide) _ 0 [] hs hown ad m c (cellsZ zs) hx (by simp [hR.eqlen]) ?_ (ints_oneCell _ _) (by unfold maxLen; omega) (by omega) ?_ ?_
    · intro j u hj
      rw [List.getElem?_map] at hj
      by_cases hjl : j < zs.length
      · rw [List.getElem?_eq_getElem hjl] at hj
        simp only [Option.map_some, Option.some.injEq] at hj
        subst hj
        obtain ⟨b, off, e, h1⟩ := hR.cell j (by rw [← hR.eqlen]; exact hjl)
        simp only [Option.some.injEq] at e
        subst e
        rw [List.getD_eq_getElem?_getD, List.getElem?_eq_getElem hjl] at h1
        rw [Go.WideShapes.add_plain, World.cell?_of_block (Below.heap_alloc _ _ _ (World.block_lt_of_cell? _ _ h1))]
        exact h1
      · rw [List.getElem?_eq_none (by omega)] at hj
        simp at hj
    · rw [World.size_alloc]; omega
    · intro v' w' h2 h3 h4
      rw [List.nil_append, Nat.zero_add] at h2
      obtain ⟨ro, cr, rfl, hR'⟩ := rdz_of_owns h2
      refine h _ _ w' hR' ?_ h2
      refine ((Below.refl _ _).alloc (Nat.le_refl _) _).grown h3 (by rw [World.size_alloc]; omega) ?_
      intro k hk
      simp only [Value.ownBlock, Option.some.injEq] at hk
      omega

/-- a cube: the mask, the digits, the state -/
structure Cb where
  m : Int
  b : Int
  t : Int
  deriving DecidableEq
instance : Inhabited Cb := ⟨⟨0, 0, 0⟩⟩
def Cb.cells (x : Cb) : List Value := [.int .i64 x.m, .int .i64 x.b, .int .i64 x.t]
def Cb.val (x : Cb) : Value := .agg #[.int .i64 x.m, .int .i64 x.b, .int .i64 x.t]
abbrev cellsC (cs : List Cb) : List Value := cs.flatMap Cb.cells
/-- the slice reads as the cubes cs -/
structure RdC (w : World) (ao : Option Addr) (len cap : Nat) (cs : List Cb) : Prop where
  eqlen : cs.length = len
  lecap : len ≤ cap
  lemax : cap ≤ 9223372036854775807
  isnil : ao = none → cap = 0
  cell : ∀ i, i < len → ∃ b off, ao = some ⟨b, off, none⟩ ∧ b < w.heap.size ∧ w.cell? ⟨b, off + i * 3, none⟩ = some (.int .i64 (cs.getD i default).m) ∧ w.cell? ⟨b, off + i * 3 + 1, none⟩ = some (.int .i64 (cs.getD i default).b) ∧
    w.cell? ⟨b, off + i * 3 + 2, none⟩ = some (.int .i64 (cs.getD i default).t)
theorem RdC.below {w w' : World} {ao : Option Addr} {len cap : Nat} {cs : List Cb} (h : RdC w ao len cap cs) {B : Nat} (hB : w.heap.size ≤ B) (hb : Below B w w') : RdC w' ao len cap cs := by
  refine ⟨h.eqlen, h.lecap, h.lemax, h.isnil, fun i hi => ?_⟩
  obtain ⟨b, off, rfl, hlt, h0, h1, h2⟩ := h.cell i hi
  have k : ∀ o v, w.cell? ⟨b, o, none⟩ = some v → w'.cell? ⟨b, o, none⟩ = some v := fun o v e => (hb.cell (p := ⟨b, o, none⟩) (Nat.lt_of_lt_of_le hlt hB)).trans e
  exact ⟨b, off, rfl, Nat.lt_of_lt_of_le hlt hb.size, k _ _ h0, k _ _ h1, k _ _ h2⟩
theorem rdc_nil (w : World) : RdC w none 0 0 [] := ⟨rfl, Nat.le_refl _, by omega, fun _ => rfl, fun i hi => by omega⟩
theorem cells_cons (x : Cb) (cs : List Cb) : cellsC (x :: cs) = x.cells ++ cellsC cs := rfl
theorem flat_get (cs : List Cb) (i r : Nat) (hr : r < 3) (hi : i < cs.length) : (cellsC cs)[i * 3 + r]? = (cs.getD i default).cells[r]? := by
  induction cs generalizing i with
  | nil => simp at hi
  | cons x cs ih =>
    have hx : x.cells.length = 3 := rfl
    rw [cells_cons]
    cases i with
    | zero =>
      rw [Nat.zero_mul, Nat.zero_add, List.getElem?_append_left (by omega)]
      rfl
    | succ i =>
      rw [List.getElem?_append_right (by omega), hx, show (i + 1) * 3 + r - 3 = i * 3 + r by omega, ih i (by simpa using hi)]
      rfl
theorem flat_len (cs : List Cb) : (cellsC cs).length = cs.length * 3 := by
  induction cs with
  | nil => rfl
  | cons x cs ih =>
    rw [cells_cons, List.length_append, ih, List.length_cons]
    show 3 + cs.length * 3 = _
    omega
theorem cells_one (cs : List Cb) : ∀ u ∈ cellsC cs, u.oneCell' = true := by
  intro u hu
  obtain ⟨x, _, hx⟩ := List.mem_flatMap.1 hu
  simp only [Cb.cells, List.mem_cons, List.not_mem_nil, or_false] at hx
  rcases hx with rfl | rfl | rfl <;> rfl
theorem owns_clen {w : World} {base : Nat} {t : TypeId} {v : Value} {n : Nat} {cs : List Cb} (h : w.ownsRow base t 3 v n (cellsC cs)) : cs.length = n := by
  have := h.1
  rw [flat_len] at this
  omega
theorem rdc_of_owns {w : World} {base : Nat} {t : TypeId} {v : Value} {n : Nat} {cs : List Cb} (h : w.ownsRow base t 3 v n (cellsC cs)) : ∃ ro cr, v = .slice ro n cr ∧ RdC w ro n cr cs := by
  have hn := owns_clen h
  have h' := h
  obtain ⟨hl, hv⟩ := h'
  rcases hv with ⟨rfl, hz⟩ | ⟨g, cap, cur, rfl, hg, hh, hnc, hcm, hcs, hx⟩
  · subst hz
    exact ⟨none, 0, rfl, hn, Nat.le_refl _, by omega, fun _ => rfl, fun i hi => by omega⟩
  · refine ⟨some ⟨g, 0, none⟩, cap, rfl, hn, hnc, hcm, (fun h => nomatch h), (fun i hi => ⟨g, 0, rfl, (Array.getElem?_eq_some_iff.1 hh).1, ?_⟩)⟩
    have key : ∀ r, r < 3 → w.cell? ⟨g, i * 3 + r, none⟩ = (cs.getD i default).cells[r]? := fun r hr => by
      rw [h.cellAt (i * 3 + r) (by omega), flat_get cs i r hr (by omega)]
    simp only [Nat.zero_add]
    exact ⟨key 0 (by omega), key 1 (by omega), key 2 (by omega)⟩
theorem own_keep {w w' : World} {base : Nat} {e : TypeId} {size : Nat} {v : Value} {n : Nat} {xs : List Value} (h : w.ownsRow base e size v n xs) (hb : Below w.heap.size w w') : w'.ownsRow base e size v n xs := by
  obtain ⟨h1, h2⟩ := h
  refine ⟨h1, ?_⟩
  rcases h2 with h2 | ⟨g, cap, cur, a, b, c, d⟩
  · exact .inl h2
  · exact .inr ⟨g, cap, cur, a, b, by rw [hb.block g (Array.getElem?_eq_some_iff.1 c).1]; exact c, d⟩
theorem owns_mono {w : World} {base base' : Nat} {e : TypeId} {size : Nat} {v : Value} {n : Nat} {xs : List Value} (h : w.ownsRow base e size v n xs) (hb : base' ≤ base) : w.ownsRow base' e size v n xs := by
  obtain ⟨h1, h2⟩ := h
  refine ⟨h1, ?_⟩
  rcases h2 with h2 | ⟨g, cap, cur, a, b, c, d⟩
  · exact .inl h2
  · exact .inr ⟨g, cap, cur, a, by omega, c, d⟩
theorem owns_nil (w : World) (base : Nat) (e : TypeId) (size : Nat) : w.ownsRow base e size (.slice none 0 0) 0 [] := ⟨by simp, .inl ⟨rfl, rfl⟩⟩
theorem Try.infoCube : (Try.prog.info? 35).map (fun i => (i.zero, i.size, i.bytes)) = some (some (.agg #[.int .i64 0, .int .i64 0, .int .i64 0]), 3, 24) := by kernel_rfl
theorem cells_argC {w : World} {b off m c : Nat} {cs : List Cb} (h : RdC w (some ⟨b, off, none⟩) m c cs) : ∀ j u, (cellsC cs)[j]? = some u → w.cell? ((⟨b, off, none⟩ : Addr).add j) = some u := by
  intro j u hj
  have hlt := (List.getElem?_eq_some_iff.1 hj).1
  rw [flat_len] at hlt
  have hq : j / 3 < cs.length := by omega
  have hr : j % 3 < 3 := Nat.mod_lt _ (by omega)
  have he : j = j / 3 * 3 + j % 3 := by omega
  have hf := flat_get cs (j / 3) (j % 3) hr hq
  rw [← he, hj] at hf
  obtain ⟨b', o', e, _, c0, c1, c2⟩ := h.cell (j / 3) (by rw [← h.eqlen]; exact hq)
  simp only [Option.some.injEq, Addr.mk.injEq, and_true] at e
  obtain ⟨rfl, rfl⟩ := e
  rw [Go.WideShapes.add_plain]
  rcases (show j % 3 = 0 ∨ j % 3 = 1 ∨ j % 3 = 2 by omega) with e | e | e
  · rw [e] at hf; rw [show off + j = off + j / 3 * 3 by omega, c0, hf]; rfl
  · rw [e] at hf; rw [show off + j = off + j / 3 * 3 + 1 by omega, c1, hf]; rfl
  · rw [e] at hf; rw [show off + j = off + j / 3 * 3 + 2 by omega, c2, hf]; rfl
/-- all but one block is kept -/
abbrev Kp (r : Option Nat) (w w' : World) : Prop := w.grownBy w' r
theorem Kp.refl (r : Option Nat) (w : World) : Kp r w w := ⟨rfl, rfl, rfl, Nat.le_refl _, fun _ _ _ => rfl⟩
theorem Kp.of {r : Option Nat} {w w' : World} (h : Below w.heap.size w w') : Kp r w w' := ⟨h.os, h.tape, h.output, h.size, fun k hk _ => h.block k hk⟩
theorem Kp.trans {r r1 : Option Nat} {w w1 w2 : World} (h : Kp r w w1) (k : Kp r1 w1 w2) (hr : ∀ q, r1 = some q → r = some q ∨ w.heap.size ≤ q) : Kp r w w2 :=
  ⟨k.os.trans h.os, k.tape.trans h.tape, k.output.trans h.output, Nat.le_trans h.size k.size, fun i hi hn => (k.block i (Nat.lt_of_lt_of_le hi h.size) (fun e => by
    rcases hr i e.symm with h1 | h1
    · exact hn h1.symm
    · omega)).trans (h.block i hi hn)⟩
theorem Kp.set {r : Option Nat} {w w' : World} (h : Kp r w w') {a : Addr} (ha : w.heap.size ≤ a.block) (v : Value) : Kp r w (w'.setCell a v) :=
  ⟨h.os, h.tape, h.output, Nat.le_trans h.size ((Below.refl 0 w').setCell (p := a) (Nat.zero_le _) v).size, fun k hk hne => (Below.heap_setCell _ _ _ k (by omega)).trans (h.block k hk hne)⟩
theorem Kp.below {r : Option Nat} {w w' : World} {base : Nat} (h : Kp r w w') (hr : ∀ q, r = some q → base ≤ q) (hb : base ≤ w.heap.size) : Below base w w' :=
  ⟨h.os, h.tape, h.output, h.size, fun k hk => h.block k (by omega) (fun e => by have := hr k e.symm; omega)⟩
theorem Kp.none {w w' : World} (h : Kp none w w') : Below w.heap.size w w' := h.below (fun _ e => nomatch e) (Nat.le_refl _)
theorem RdZ.kp {w w' : World} {ao : Option Addr} {len cap : Nat} {zs : List Int} {r : Option Nat} (h : RdZ w ao len cap zs) (hk : Kp r w w') (hne : ∀ ad, ao = some ad → some ad.block ≠ r) : RdZ w' ao len cap zs := by
  refine ⟨h.eqlen, h.lecap, h.lemax, h.isnil, fun i hi => ?_⟩
  obtain ⟨b, off, rfl, hc⟩ := h.cell i hi
  exact ⟨b, off, rfl, hk.cell hc (hne ⟨b, off, none⟩ rfl)⟩
theorem lies_kp {w w' : World} {b o : Nat} {v : Value} {r : Option Nat} (h : w.cell? ⟨b, o, none⟩ = some v) (hk : Kp r w w') (hne : some b ≠ r) : w'.cell? ⟨b, o, none⟩ = some v := hk.cell h hne
/-- an append onto a row of our own, and where the answer lies -/
theorem run_append_where {P : Program} {w : World} (base : Nat) (t ty e : TypeId) (i : TypeInfo) (z : Value) (size bytes : Nat) (ht : P.underlying t = some (.slice e)) (hi : P.info? e = some i) (hz : i.zero = some z)
    (hsize : i.size = size) (hby : i.bytes = bytes) (hzs : z.cells.size = size) (hsz : 0 < size)
    (v : Value) (n : Nat) (xs : List Value) (hown : w.ownsRow base e size v n xs)
    (a : Addr) (m c : Nat) (news : List Value) (hl : news.length = m * size) (hnews : ∀ j u, news[j]? = some u → w.cell? (a.add j) = some u) (h1 : ∀ u ∈ news, u.oneCell' = true)
    (h63 : n + m ≤ maxLen) (hbytes : (n + m) * bytes ≤ 140737488355328) (hbase : base ≤ w.heap.size) :
    ∃ v' w', (Builtin.append_ #[t, t] ty #[v, .slice (some a) m c]).run P w = .ok v' w' ∧ w'.ownsRow base e size v' (n + m) (xs ++ news) ∧ Kp v.ownBlock w w' ∧ ∀ q, v'.ownBlock = some q → v.ownBlock = some q ∨ w.heap.size ≤ q := by
  obtain ⟨v', w', hr, h2, h3, h4⟩ := run_append_own (P := P) w base t ty e i z size bytes ht hi hz hsize hby hzs hsz v n xs hown a m c news hl hnews h1 h63 hbytes hbase
  refine ⟨v', w', hr, h2, h3, fun q hq => ?_⟩
  have hsmall : n + m ≤ 9223372036854775807 := by simp only [maxLen] at h63; omega
  rcases hown.2 with ⟨rfl, rfl⟩ | ⟨g, cap, cur, rfl, hbg, hg, hnc, hcm, hcs, htake⟩
  · rcases Nat.eq_zero_or_pos m with hm | hm
    · rw [h4.2 ⟨rfl, hm⟩] at hq
      simp [Value.ownBlock] at hq
    · have hr' := run_append_nil (P := P) w t ty e i z ht hi hz a m c news (by rw [hsize]; exact hl) hnews hm (by omega) (by rw [hby]; have := hbytes; simp only [Nat.zero_add] at this; omega)
      rw [hr'] at hr
      simp only [Result.ok.injEq] at hr
      obtain ⟨rfl, -⟩ := hr
      simp only [Value.ownBlock, Option.some.injEq] at hq
      omega
  · by_cases hroom : n + m ≤ cap
    · have hr' := run_append_room (P := P) w t ty e i ht hi g n cap cur hg a m c news (by rw [hsize]; exact hl) hnews h1 hroom (by rw [hsize, hl, hcs, ← Nat.add_mul]; exact Nat.mul_le_mul_right _ hroom)
      rw [hr'] at hr
      simp only [Result.ok.injEq] at hr
      obtain ⟨rfl, -⟩ := hr
      exact .inl hq
    · have hr' := run_append_grow (P := P) w t ty e i z ht hi hz ⟨g, 0, none⟩ n cap xs (by rw [hsize]; exact hown.1) (hown.cells (g := g) rfl) a m c news (by rw [hsize]; exact hl) hnews (by omega) (by omega) (growslice_fits (by omega) (by rw [hby]; exact hbytes))
      rw [hr'] at hr
      simp only [Result.ok.injEq] at hr
      obtain ⟨rfl, -⟩ := hr
      simp only [Value.ownBlock, Option.some.injEq] at hq
      omega
/-- 'append(v, x...)' where v is a row of our own, of cubes -/
theorem wp_joinC {ops : Array Oper} {rest : List Oper} {o : Oper} {a : Act} {Q : Exit → Act → World → Prop} (Wc : World) (base : Nat) (hgd : o.guard = none) (s x : Operand)
    (ho : o.op = .call { callee := .builtin .append, args := #[s, x], argTypes := #[26, 26] }) (v : Value) (k : Nat) (O : List Cb) (hs : a.eval s = v) (ao : Option Addr) (m c : Nat) (D : List Cb) (hx : a.eval x = .slice ao m c)
    (hown : Wc.ownsRow base 35 3 v k (cellsC O)) (hR : RdC Wc ao m c D) (hbase : base ≤ Wc.heap.size) (hk : (k + m) * 24 ≤ 140737488355328)
    (h : ∀ v' w', w'.ownsRow base 35 3 v' (k + m) (cellsC (O ++ D)) → Kp v.ownBlock Wc w' → (∀ q, v'.ownBlock = some q → v.ownBlock = some q ∨ Wc.heap.size ≤ q) → wpList Try.prog ops Q rest (a.put o.dst v') w') : wpList Try.prog ops Q (o :: rest) a Wc := by
  obtain ⟨i0, hi, hz0, hz1, hz2⟩ := info_parts Try.infoCube
  have he := hR.eqlen
  cases ao with
  | none =>
    have hc0 := hR.isnil rfl
    have hl := hR.lecap
    obtain rfl : c = 0 := hc0
    obtain rfl : m = 0 := by omega
    have hz : D = [] := List.length_eq_zero_iff.1 hR.eqlen
    subst hz
    refine wpList_append_own_none hgd s x 26 ho base 35 i0 3 Try.underlying26 hi v k (cellsC O) hs hown hx ?_
    exact h v Wc (by simpa using hown) (Kp.refl _ _) (fun q hq => .inl hq)
  | some ad =>
    have hcells : ∀ j u, (cellsC D)[j]? = some u → Wc.cell? (ad.add j) = some u := by
      rcases Nat.eq_zero_or_pos m with hm | hm
      · subst hm
        have hz : D = [] := List.length_eq_zero_iff.1 hR.eqlen
        subst hz
        intro j u hj
        simp at hj
      · obtain ⟨b, off, e, _⟩ := hR.cell 0 hm
        simp only [Option.some.injEq] at e
        subst e
        exact cells_argC hR
    obtain ⟨v', w', hr, h2, h3, h4⟩ := run_append_where (P := Try.prog) base 26 o.type 35 i0 _ 3 24 Try.underlying26 hi hz0 hz1 hz2 rfl (by decide) v k (cellsC O) hown ad m c (cellsC D) (by rw [flat_len, he]) hcells (cells_one D) (by unfold maxLen; omega) (by omega) hbase
    refine wpList_plain hgd fun _ hK => ?_
    unfold Oper.wp execOp
    simp only [ho, resolve, invoke, builtin, Sem.run_bind, Sem.run_pure, Result.andThen_ok, List.map_toArray, List.map_cons, List.map_nil, hs, hx, hr]
    exact hK _ _ (h v' w' (by rw [cellsC, List.flatMap_append]; exact h2) h3 h4)
/-- 'append([]api.Cube{}, x...)' -/
theorem wp_copyC {ops : Array Oper} {rest : List Oper} {o : Oper} {a : Act} {Q : Exit → Act → World → Prop} (W : World) (hgd : o.guard = none) (s x : Operand)
    (ho : o.op = .call { callee := .builtin .append, args := #[s, x], argTypes := #[26, 26] })
    (hs : a.eval s = .slice (some ⟨W.heap.size, 0, none⟩) 0 0) (ao : Option Addr) (m c : Nat) (D : List Cb) (hx : a.eval x = .slice ao m c) (hR : RdC W ao m c D) (hm : m * 24 ≤ 140737488355328)
    (h : ∀ v' w', w'.ownsRow W.heap.size 35 3 v' m (cellsC D) → Below W.heap.size W w' → wpList Try.prog ops Q rest (a.put o.dst v') w') : wpList Try.prog ops Q (o :: rest) a (W.alloc (.cells #[] 35)) := by
  have hown := World.ownsRow_made (base := W.heap.size) (e := 35) (size := 3) W #[] 0 (Nat.le_refl _) (Nat.zero_le _) (by simp)
  refine wp_joinC (W.alloc (.cells #[] 35)) W.heap.size hgd s x ho _ 0 [] hs ao m c D hx hown (hR.below (B := W.heap.size) (Nat.le_refl _) (bal _ _)) (by rw [World.size_alloc]; omega) (by omega) ?_
  intro v' w' h1 h2 h3
  rw [Nat.zero_add, List.nil_append] at h1
  exact h v' w' h1 ((bal W _).trans (h2.below (fun q hq => by simp only [Value.ownBlock, Option.some.injEq] at hq; omega) (by rw [World.size_alloc]; omega)))
/-- 'append(v, d)', the new cube in a block g of its own -/
theorem wp_pushC {ops : Array Oper} {rest : List Oper} {o : Oper} {a : Act} {Q : Exit → Act → World → Prop} (Wc : World) (base : Nat) (hgd : o.guard = none) (s x : Operand)
    (ho : o.op = .call { callee := .builtin .append, args := #[s, x], argTypes := #[26, 26] }) (v : Value) (k : Nat) (O : List Cb) (hs : a.eval s = v) (g : Nat) (d : Cb) (hx : a.eval x = .slice (some ⟨g, 0, none⟩) 1 1)
    (hown : Wc.ownsRow base 35 3 v k (cellsC O)) (h0 : Wc.cell? ⟨g, 0, none⟩ = some (.int .i64 d.m)) (h1 : Wc.cell? ⟨g, 1, none⟩ = some (.int .i64 d.b)) (h2 : Wc.cell? ⟨g, 2, none⟩ = some (.int .i64 d.t)) (hbase : base ≤ Wc.heap.size) (hk : (k + 1) * 24 ≤ 140737488355328)
    (h : ∀ v' w', w'.ownsRow base 35 3 v' (k + 1) (cellsC (O ++ [d])) → Kp v.ownBlock Wc w' → (∀ q, v'.ownBlock = some q → v.ownBlock = some q ∨ Wc.heap.size ≤ q) → wpList Try.prog ops Q rest (a.put o.dst v') w') : wpList Try.prog ops Q (o :: rest) a Wc := by
  refine wp_joinC Wc base hgd s x ho v k O hs (some ⟨g, 0, none⟩) 1 1 [d] hx hown ⟨rfl, Nat.le_refl _, by omega, (fun e => nomatch e), fun i hi => ?_⟩ hbase hk h
  obtain rfl : i = 0 := by omega
  exact ⟨g, 0, rfl, World.block_lt_of_cell? _ _ h0, by simpa using h0, by simpa using h1, by simpa using h2⟩
theorem ownsC_cell {w : World} {base g n cap : Nat} {t : TypeId} {O : List Cb} (h : w.ownsRow base t 3 (.slice (some ⟨g, 0, none⟩) n cap) n (cellsC O)) (p : Nat) (hp : p < n) :
    w.cell? ⟨g, p * 3, none⟩ = some (.int .i64 (O.getD p default).m) ∧ w.cell? ⟨g, p * 3 + 1, none⟩ = some (.int .i64 (O.getD p default).b) ∧ w.cell? ⟨g, p * 3 + 2, none⟩ = some (.int .i64 (O.getD p default).t) := by
  obtain ⟨ro, cr, e, hR⟩ := rdc_of_owns h
  simp only [Value.slice.injEq] at e
  obtain ⟨rfl, _, _⟩ := e
  obtain ⟨b, off, e, _, c0, c1, c2⟩ := hR.cell p hp
  simp only [Option.some.injEq, Addr.mk.injEq, and_true] at e
  obtain ⟨rfl, rfl⟩ := e
  simpa using And.intro c0 (And.intro c1 c2)
end Go.Proofs.Ythkabeaecfiinaa.Ro
