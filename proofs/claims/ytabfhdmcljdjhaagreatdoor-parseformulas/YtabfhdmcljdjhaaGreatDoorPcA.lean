/- Trees in new memory, blocks: of no program. -/
import Derived.Test.YtabfhdmcljdjhaaGreatDoorPaA
import Derived.Test.YtabfhdmcljdjhaaGreatDoorGlH
import Derived.Test.YtabfhdmcljdjhaaGreatDoorTrB
namespace Go.Proofs.YtabfhdmcljdjhaaGreatDoor.Gl
open Go.RowKit
set_option linter.unusedVariables false

/-- all but block b is kept -/
structure Bux (b : Nat) (w w' : World) : Prop where
  os : w'.os = w.os
  tape : w'.tape = w.tape
  output : w'.output = w.output
  size : w.heap.size ≤ w'.heap.size
  block : ∀ k, k < w.heap.size → k ≠ b → w'.heap[k]? = w.heap[k]?
theorem Bux.refl (b : Nat) (w : World) : Bux b w w := ⟨rfl, rfl, rfl, Nat.le_refl _, fun _ _ _ => rfl⟩
theorem Bux.trans {b : Nat} {w w1 w2 : World} (h : Bux b w w1) (k : Bux b w1 w2) : Bux b w w2 :=
  ⟨k.os.trans h.os, k.tape.trans h.tape, k.output.trans h.output, Nat.le_trans h.size k.size, fun i hi hn => (k.block i (Nat.lt_of_lt_of_le hi h.size) hn).trans (h.block i hi hn)⟩
theorem Bux.of {b : Nat} {w w' : World} (h : Below w.heap.size w w') : Bux b w w' := ⟨h.os, h.tape, h.output, h.size, fun i hi _ => h.block i hi⟩
theorem Bux.below {b B : Nat} {w w' : World} (h : Bux b w w') (hb : B ≤ b) (hs : B ≤ w.heap.size) : Below B w w' :=
  ⟨h.os, h.tape, h.output, h.size, fun i hi => h.block i (by omega) (by omega)⟩
theorem Bux.set {b : Nat} {w w' : World} (h : Bux b w w') (o : Nat) (v : Value) : Bux b w (w'.setCell ⟨b, o, none⟩ v) :=
  h.trans ⟨rfl, rfl, rfl, by simp [World.setCell], fun k hk hn => Below.heap_setCell _ _ _ _ hn⟩
theorem txcell {w : World} {b : Nat} {vs : Array Value} {t : TypeId} (h : w.heap[b]? = some (Obj.cells vs t)) (i : Nat) (v : Value) (hv : vs[i]? = some v) : w.cell? ⟨b, i, none⟩ = some v ∧ w.frozen? ⟨b, i, none⟩ = false := by
  constructor <;> simp [World.cell?, World.frozen?, h, hv]
/-- the words of a text in memory -/
structure TxW (W : World) (s : ByteArray) (ws : List Wd) (ao : Option Addr) (n cap : Nat) : Prop where
  rd : RdW W ao n cap (ws.map (full s))
  small : n ≤ 4096
theorem TxW.len {W : World} {s : ByteArray} {ws : List Wd} {ao : Option Addr} {n cap : Nat} (h : TxW W s ws ao n cap) : ws.length = n := by
  have := h.rd.eqlen
  simpa using this
theorem TxW.get {W w : World} {s : ByteArray} {ws : List Wd} {ao : Option Addr} {n cap : Nat} (h : TxW W s ws ao n cap) (hW : Below W.heap.size W w) {p : Nat} (hp : p < n) :
    ∃ x g off, ws[p]? = some x ∧ ao = some ⟨g, off, none⟩ ∧ g < W.heap.size ∧ w.cell? ⟨g, off + p * 5, none⟩ = some (.int .i64 (x.kind : Nat)) ∧ w.cell? ⟨g, off + p * 5 + 1, none⟩ = some (.string x.text) ∧ w.cell? ⟨g, off + p * 5 + 2, none⟩ = some (.int .i64 (x.num : Nat)) ∧
      w.cell? ⟨g, off + p * 5 + 3, none⟩ = some (.int .i64 (x.byte : Nat)) ∧ w.cell? ⟨g, off + p * 5 + 4, none⟩ = some (.int .i64 (cnt (s.extract 0 x.byte) : Nat)) := by
  have hl := h.len
  obtain ⟨g, off, hao, hg, c0, c1, c2, c3, c4⟩ := (h.rd.below (Nat.le_refl _) hW).cell p hp
  obtain ⟨g', off', hao', hg', _⟩ := h.rd.cell p hp
  have e : (ws.map (full s)).getD p default = full s (ws[p]'(by omega)) := by
    rw [List.getD_eq_getElem?_getD, List.getElem?_map, List.getElem?_eq_getElem (by omega)]
    rfl
  rw [e] at c0 c1 c2 c3 c4
  rw [hao] at hao'
  cases hao'
  exact ⟨ws[p]'(by omega), g, off, List.getElem?_eq_getElem _, hao, hg', c0, c1, c2, c3, c4⟩
theorem tx_set {w : World} {b : Nat} {vs : Array Value} {t : TypeId} (h : w.heap[b]? = some (Obj.cells vs t)) (i : Nat) (v : Value) : (w.setCell ⟨b, i, none⟩ v).heap[b]? = some (Obj.cells (vs.setIfInBounds i v) t) := by
  obtain ⟨hlt, hk⟩ := Array.getElem?_eq_some_iff.1 h
  show (w.heap.modify b _)[b]? = _
  rw [Array.getElem?_eq_getElem (by rw [Array.size_modify]; exact hlt), Array.getElem_modify_self, hk]
  rfl
theorem Bux.cellN {b : Nat} {w w' : World} (h : Bux b w w') {g i : Nat} (hg : g < w.heap.size) (hne : g ≠ b) : w'.cell? ⟨g, i, none⟩ = w.cell? ⟨g, i, none⟩ := World.cell?_of_block (w := w) (h.block g hg hne)
def KdAt (ws : List Wd) (p k : Nat) : Prop := ∃ y, ws[p]? = some y ∧ y.kind = k
abbrev Ge (base : Nat) : Nat → Prop := fun k => base ≤ k
mutual
def RdTn (P : Nat → Prop) (W : World) : Tm → Value → Value → Value → Value → Prop
  | .mk o n x a, c0, c1, c2, c3 => c0 = .int .i64 o ∧ c1 = .int .i64 n ∧ c2 = .string x ∧ (I64 o ∧ I64 n ∧ Sz x.size) ∧ ∃ ao cap, c3 = .slice ao a.length cap ∧ a.length ≤ cap ∧ Sz cap ∧ RdTnL P W a ao 0
def RdTnL (P : Nat → Prop) (W : World) : List Tm → Option Addr → Nat → Prop
  | [], _, _ => True
  | t :: r, ao, i => (∃ g of c0 c1 c2 c3, ao = some ⟨g, of, none⟩ ∧ P g ∧ g < W.heap.size ∧ W.cell? ⟨g, of + i * 4, none⟩ = some c0 ∧ W.cell? ⟨g, of + i * 4 + 1, none⟩ = some c1 ∧ W.cell? ⟨g, of + i * 4 + 2, none⟩ = some c2 ∧ W.cell? ⟨g, of + i * 4 + 3, none⟩ = some c3 ∧ RdTn P W t c0 c1 c2 c3) ∧ RdTnL P W r ao (i + 1)
end
/-- what lies from base on lies as it lay -/
structure Hi (P : Nat → Prop) (W W' : World) : Prop where
  size : W.heap.size ≤ W'.heap.size
  block : ∀ k, P k → k < W.heap.size → W'.heap[k]? = W.heap[k]?
theorem Hi.refl (P : Nat → Prop) (W : World) : Hi P W W := ⟨Nat.le_refl _, fun _ _ _ => rfl⟩
theorem Hi.trans {P : Nat → Prop} {A B C : World} (h : Hi P A B) (k : Hi P B C) : Hi P A C := ⟨Nat.le_trans h.size k.size, fun i hi hlt => (k.block i hi (Nat.lt_of_lt_of_le hlt h.size)).trans (h.block i hi hlt)⟩
theorem Hi.mono {P P' : Nat → Prop} {A B : World} (h : Hi P A B) (hb : ∀ k, P' k → P k) : Hi P' A B := ⟨h.size, fun k hk hlt => h.block k (hb k hk) hlt⟩
theorem Hi.of {P : Nat → Prop} {A B : World} (h : Below A.heap.size A B) : Hi P A B := ⟨h.size, fun k _ hlt => h.block k hlt⟩
theorem Hi.but {P : Nat → Prop} {b : Nat} {A B : World} (h : Bux b A B) (hb : ∀ k, P k → k ≠ b) : Hi P A B := ⟨h.size, fun k hk hlt => h.block k hlt (hb k hk)⟩
theorem Hi.set {P : Nat → Prop} {A B : World} (h : Hi P A B) {g : Nat} (hg : ∀ k, P k → k ≠ g) (i : Nat) (v : Value) : Hi P A (B.setCell ⟨g, i, none⟩ v) := ⟨Nat.le_trans h.size ((Below.refl 0 B).setCell (p := ⟨g, i, none⟩) (Nat.zero_le _) v).size, fun k hk hlt => (Below.heap_setCell _ _ _ k (hg k hk)).trans (h.block k hk hlt)⟩
theorem RdTn.keep {P : Nat → Prop} {W W' : World} (hb : Hi P W W') : ∀ t c0 c1 c2 c3, RdTn P W t c0 c1 c2 c3 → RdTn P W' t c0 c1 c2 c3 := by
  refine Tm.ind (fun o n x a ih c0 c1 c2 c3 h => ?_)
  rw [RdTn] at h ⊢
  obtain ⟨h0, h1, h2, h3, ao, cap, h4, h5, h6, h7⟩ := h
  refine ⟨h0, h1, h2, h3, ao, cap, h4, h5, h6, ?_⟩
  have key : ∀ l : List Tm, (∀ t ∈ l, t ∈ a) → ∀ j, RdTnL P W l ao j → RdTnL P W' l ao j := by
    intro l
    induction l with
    | nil => intro _ j _; rw [RdTnL]; trivial
    | cons t r ihr =>
      intro hm j h
      rw [RdTnL] at h ⊢
      obtain ⟨⟨g, of, d0, d1, d2, d3, e, hbg, hg, k0, k1, k2, k3, hr⟩, hrest⟩ := h
      have hc : ∀ i, W'.cell? ⟨g, i, none⟩ = W.cell? ⟨g, i, none⟩ := fun i => World.cell?_of_block (w := W) (hb.block g hbg hg)
      exact ⟨⟨g, of, d0, d1, d2, d3, e, hbg, Nat.lt_of_lt_of_le hg hb.size, (hc _).trans k0, (hc _).trans k1, (hc _).trans k2, (hc _).trans k3, ih t (hm t (List.mem_cons_self ..)) _ _ _ _ hr⟩, ihr (fun u hu => hm u (List.mem_cons_of_mem _ hu)) _ hrest⟩
  exact key a (fun _ h => h) 0 h7
theorem RdTn.low {P P' : Nat → Prop} {W : World} (hb : ∀ k, k < W.heap.size → P k → P' k) : ∀ t c0 c1 c2 c3, RdTn P W t c0 c1 c2 c3 → RdTn P' W t c0 c1 c2 c3 := by
  refine Tm.ind (fun o n x a ih c0 c1 c2 c3 h => ?_)
  rw [RdTn] at h ⊢
  obtain ⟨h0, h1, h2, h3, ao, cap, h4, h5, h6, h7⟩ := h
  refine ⟨h0, h1, h2, h3, ao, cap, h4, h5, h6, ?_⟩
  have key : ∀ l : List Tm, (∀ t ∈ l, t ∈ a) → ∀ j, RdTnL P W l ao j → RdTnL P' W l ao j := by
    intro l
    induction l with
    | nil => intro _ j _; rw [RdTnL]; trivial
    | cons t r ihr =>
      intro hm j h
      rw [RdTnL] at h ⊢
      obtain ⟨⟨g, of, d0, d1, d2, d3, e, hbg, hg, k0, k1, k2, k3, hr⟩, hrest⟩ := h
      exact ⟨⟨g, of, d0, d1, d2, d3, e, hb g hg hbg, hg, k0, k1, k2, k3, ih t (hm t (List.mem_cons_self ..)) _ _ _ _ hr⟩, ihr (fun u hu => hm u (List.mem_cons_of_mem _ hu)) _ hrest⟩
  exact key a (fun _ h => h) 0 h7
theorem RdTn.plain {P : Nat → Prop} {W : World} : ∀ t c0 c1 c2 c3, RdTn P W t c0 c1 c2 c3 → RdT W t c0 c1 c2 c3 := by
  refine Tm.ind (fun o n x a ih c0 c1 c2 c3 h => ?_)
  rw [RdTn] at h
  rw [RdT]
  obtain ⟨h0, h1, h2, h3, ao, cap, h4, h5, h6, h7⟩ := h
  refine ⟨h0, h1, h2, h3, ao, cap, h4, h5, h6, ?_⟩
  have key : ∀ l : List Tm, (∀ t ∈ l, t ∈ a) → ∀ j, RdTnL P W l ao j → RdTL W l ao j := by
    intro l
    induction l with
    | nil => intro _ j _; rw [RdTL]; trivial
    | cons t r ihr =>
      intro hm j h
      rw [RdTnL] at h
      rw [RdTL]
      obtain ⟨⟨g, of, d0, d1, d2, d3, e, hbg, hg, k0, k1, k2, k3, hr⟩, hrest⟩ := h
      exact ⟨⟨g, of, d0, d1, d2, d3, e, hg, k0, k1, k2, k3, ih t (hm t (List.mem_cons_self ..)) _ _ _ _ hr⟩, ihr (fun u hu => hm u (List.mem_cons_of_mem _ hu)) _ hrest⟩
  exact key a (fun _ h => h) 0 h7
/-- a term's value, written out, its lists in new memory -/
def TmN (P : Nat → Prop) (W : World) (t : Tm) (v : Value) : Prop := ∃ o m x ao n c, v = .agg #[.int .i64 o, .int .i64 m, .string x, .slice ao n c] ∧ RdTn P W t (.int .i64 o) (.int .i64 m) (.string x) (.slice ao n c)
theorem TmN.keep {P : Nat → Prop} {W W' : World} {t : Tm} {v : Value} (h : TmN P W t v) (hb : Hi P W W') : TmN P W' t v := by
  obtain ⟨o, m, x, ao, n, c, e, hr⟩ := h
  exact ⟨o, m, x, ao, n, c, e, hr.keep hb⟩
theorem TmN.low {P P' : Nat → Prop} {W : World} {t : Tm} {v : Value} (h : TmN P W t v) (hb : ∀ k, k < W.heap.size → P k → P' k) : TmN P' W t v := by
  obtain ⟨o, m, x, ao, n, c, e, hr⟩ := h
  exact ⟨o, m, x, ao, n, c, e, hr.low hb⟩
theorem TmN.plain {P : Nat → Prop} {W : World} {t : Tm} {v : Value} (h : TmN P W t v) : TmV W t v := by
  obtain ⟨o, m, x, ao, n, c, e, hr⟩ := h
  exact ⟨_, _, _, _, e, hr.plain⟩
/-- a block of a result -/
def Rb (w : World) (B : Nat) (vs : Array Value) (t : TypeId) : Prop := w.heap[B]? = some (Obj.cells vs t)
theorem Rb.keep {w w' : World} {B : Nat} {vs : Array Value} {t : TypeId} (h : Rb w B vs t) (hb : Below w.heap.size w w') : Rb w' B vs t := (hb.block B (Array.getElem?_eq_some_iff.1 h).1).trans h
theorem Rb.but {w w' : World} {B b : Nat} {vs : Array Value} {t : TypeId} (h : Rb w B vs t) (hb : Bux b w w') (hne : B ≠ b) : Rb w' B vs t := (hb.block B (Array.getElem?_eq_some_iff.1 h).1 hne).trans h
theorem but_new {b B : Nat} {w w' : World} (h : Bux b w w') (hB : w.heap.size ≤ B) (i : Nat) (v : Value) : Bux b w (w'.setCell ⟨B, i, none⟩ v) :=
  ⟨h.os, h.tape, h.output, Nat.le_trans h.size ((Below.refl 0 w').setCell (p := ⟨B, i, none⟩) (Nat.zero_le _) v).size, fun k hk hne => (Below.heap_setCell _ _ _ k (by simp; omega)).trans (h.block k hk hne)⟩
abbrev zT : Array Value := #[.int .i64 0, .int .i64 0, .string emp, .slice none 0 0]
theorem rb_new (w : World) (vs : Array Value) (t : TypeId) : Rb (w.alloc (.cells vs t)) w.heap.size vs t := by
  show (w.heap.push _)[w.heap.size]? = _
  simp
theorem bal (w : World) (o : Obj) : Below w.heap.size w (w.alloc o) := (Below.refl _ _).alloc (Nat.le_refl _) _
theorem rb_four {w : World} {B : Nat} {vs : Array Value} {t : TypeId} (h : Rb w B vs t) (hs : vs.size = 4) (v0 v1 v2 v3 : Value) : Rb ((((w.setCell ⟨B, 0, none⟩ v0).setCell ⟨B, 1, none⟩ v1).setCell ⟨B, 2, none⟩ v2).setCell ⟨B, 3, none⟩ v3) B #[v0, v1, v2, v3] t := by
  have h1 := tx_set (tx_set (tx_set (tx_set h 0 v0) 1 v1) 2 v2) 3 v3
  have e : (((vs.setIfInBounds 0 v0).setIfInBounds 1 v1).setIfInBounds 2 v2).setIfInBounds 3 v3 = #[v0, v1, v2, v3] := by
    apply Array.ext
    · simp [hs]
    · intro i hi1 hi2
      simp only [Array.size_setIfInBounds, hs] at hi1
      rcases (show i = 0 ∨ i = 1 ∨ i = 2 ∨ i = 3 by omega) with rfl | rfl | rfl | rfl <;> simp [hs]
  rw [e] at h1
  exact h1
theorem mk1 {P : Nat → Prop} {g : Nat} {W : World} {x : Tm} {c0 c1 c2 c3 : Value} {t : TypeId} (h : RdTn P W x c0 c1 c2 c3) (hg : W.heap.size = g) (hb : P g) (o n : Int) (nm : ByteArray) (hi : I64 o ∧ I64 n ∧ Sz nm.size) : RdTn P (W.alloc (.cells #[c0, c1, c2, c3] t)) (.mk o n nm [x]) (.int .i64 o) (.int .i64 n) (.string nm) (.slice (some ⟨g, 0, none⟩) 1 1) := by
  have hR : Rb (W.alloc (.cells #[c0, c1, c2, c3] t)) g #[c0, c1, c2, c3] t := by rw [← hg]; exact rb_new W _ _
  have hk := h.keep (Hi.of (bal W (.cells #[c0, c1, c2, c3] t)))
  rw [RdTn]
  refine ⟨rfl, rfl, rfl, hi, some ⟨g, 0, none⟩, 1, rfl, Nat.le_refl _, by decide, ?_⟩
  rw [RdTnL, RdTnL]
  exact ⟨⟨g, 0, c0, c1, c2, c3, rfl, hb, (Array.getElem?_eq_some_iff.1 hR).1, (txcell hR 0 _ rfl).1, (txcell hR 1 _ rfl).1, (txcell hR 2 _ rfl).1, (txcell hR 3 _ rfl).1, hk⟩, trivial⟩
theorem mk2 {P : Nat → Prop} {g : Nat} {W : World} {x y : Tm} {c0 c1 c2 c3 d0 d1 d2 d3 : Value} {t : TypeId} (h : RdTn P W x c0 c1 c2 c3) (k : RdTn P W y d0 d1 d2 d3) (hg : W.heap.size = g) (hb : P g) (o n : Int) (nm : ByteArray) (hi : I64 o ∧ I64 n ∧ Sz nm.size) : RdTn P (W.alloc (.cells #[c0, c1, c2, c3, d0, d1, d2, d3] t)) (.mk o n nm [x, y]) (.int .i64 o) (.int .i64 n) (.string nm) (.slice (some ⟨g, 0, none⟩) 2 2) := by
  have hR : Rb (W.alloc (.cells #[c0, c1, c2, c3, d0, d1, d2, d3] t)) g #[c0, c1, c2, c3, d0, d1, d2, d3] t := by rw [← hg]; exact rb_new W _ _
  have hk := h.keep (Hi.of (bal W (.cells #[c0, c1, c2, c3, d0, d1, d2, d3] t)))
  have hk2 := k.keep (Hi.of (bal W (.cells #[c0, c1, c2, c3, d0, d1, d2, d3] t)))
  rw [RdTn]
  refine ⟨rfl, rfl, rfl, hi, some ⟨g, 0, none⟩, 2, rfl, Nat.le_refl _, by decide, ?_⟩
  rw [RdTnL, RdTnL, RdTnL]
  exact ⟨⟨g, 0, c0, c1, c2, c3, rfl, hb, (Array.getElem?_eq_some_iff.1 hR).1, (txcell hR 0 _ rfl).1, (txcell hR 1 _ rfl).1, (txcell hR 2 _ rfl).1, (txcell hR 3 _ rfl).1, hk⟩, ⟨g, 0, d0, d1, d2, d3, rfl, hb, (Array.getElem?_eq_some_iff.1 hR).1, (txcell hR 4 _ rfl).1, (txcell hR 5 _ rfl).1, (txcell hR 6 _ rfl).1, (txcell hR 7 _ rfl).1, hk2⟩, trivial⟩
theorem leafT {P : Nat → Prop} {W : World} (o n : Int) (nm : ByteArray) (hi : I64 o ∧ I64 n ∧ Sz nm.size) : RdTn P W (.mk o n nm []) (.int .i64 o) (.int .i64 n) (.string nm) (.slice none 0 0) := by
  rw [RdTn]
  exact ⟨rfl, rfl, rfl, hi, none, 0, rfl, Nat.le_refl _, by decide, by rw [RdTnL]; trivial⟩
theorem sz_emp : Sz emp.size := by decide
theorem IsS.noK {ws : List Wd} {p k : Nat} {x : ByteArray} (h : IsS ws p x) (hk : k ≠ 2) : ¬ KdAt ws p k := by
  rintro ⟨y, hy, hyk⟩
  obtain ⟨z, hz, hzk, _⟩ := h
  rw [hy] at hz
  cases hz
  omega
theorem IsN.noS {ws : List Wd} {p : Nat} {x y : ByteArray} (h : IsN ws p x) : ¬ IsS ws p y := by
  rintro ⟨z, hz, hzk, _⟩
  obtain ⟨u, hu, huk, _⟩ := h
  rw [hu] at hz
  cases hz
  omega
theorem IsD.noS {ws : List Wd} {p d : Nat} {y : ByteArray} (h : IsD ws p d) : ¬ IsS ws p y := by
  rintro ⟨z, hz, hzk, _⟩
  obtain ⟨u, hu, huk, _⟩ := h
  rw [hu] at hz
  cases hz
  omega
theorem IsN.kd {ws : List Wd} {p : Nat} {x : ByteArray} (h : IsN ws p x) : KdAt ws p 0 := by obtain ⟨u, hu, huk, _⟩ := h; exact ⟨u, hu, huk⟩
theorem IsD.kd {ws : List Wd} {p d : Nat} (h : IsD ws p d) : KdAt ws p 1 := by obtain ⟨u, hu, huk, _⟩ := h; exact ⟨u, hu, huk⟩
theorem IsD.noN {ws : List Wd} {p d : Nat} (h : IsD ws p d) : ¬ KdAt ws p 0 := by
  rintro ⟨z, hz, hzk⟩
  obtain ⟨u, hu, huk, _⟩ := h
  rw [hu] at hz
  cases hz
  omega
theorem but_drew {b : Nat} {w w' : World} (h : Bux b w w') : Bux b w w'.drew := ⟨h.os, h.tape, h.output, h.size, h.block⟩
theorem Rb.other {w : World} {B X : Nat} {vs : Array Value} {t : TypeId} (h : Rb w B vs t) (hne : B ≠ X) (i : Nat) (v : Value) : Rb (w.setCell ⟨X, i, none⟩ v) B vs t := (Below.heap_setCell _ _ _ B hne).trans h
/-- words whose texts and numbers fit -/
def WdOk (ws : List Wd) : Prop := ∀ y ∈ ws, Sz y.text.size ∧ y.num ≤ 9223372036854775807
theorem WdOk.name {ws : List Wd} (h : WdOk ws) {p : Nat} {x : ByteArray} (hx : IsN ws p x) : Sz x.size := by
  obtain ⟨y, hy, _, rfl⟩ := hx
  exact (h y (List.mem_of_getElem? hy)).1
theorem WdOk.num {ws : List Wd} (h : WdOk ws) {p d : Nat} (hx : IsD ws p d) : d ≤ 9223372036854775807 := by
  obtain ⟨y, hy, _, rfl⟩ := hx
  exact (h y (List.mem_of_getElem? hy)).2
theorem RdTnL.keep {P : Nat → Prop} {W W' : World} (hb : Hi P W W') (ao : Option Addr) : ∀ (l : List Tm) j, RdTnL P W l ao j → RdTnL P W' l ao j := by
  intro l
  induction l with
  | nil => intro j _; rw [RdTnL]; trivial
  | cons t r ihr =>
    intro j h
    rw [RdTnL] at h ⊢
    obtain ⟨⟨g, of, d0, d1, d2, d3, e, hbg, hg, k0, k1, k2, k3, hr⟩, hrest⟩ := h
    have hc : ∀ i, W'.cell? ⟨g, i, none⟩ = W.cell? ⟨g, i, none⟩ := fun i => World.cell?_of_block (w := W) (hb.block g hbg hg)
    exact ⟨⟨g, of, d0, d1, d2, d3, e, hbg, Nat.lt_of_lt_of_le hg hb.size, (hc _).trans k0, (hc _).trans k1, (hc _).trans k2, (hc _).trans k3, RdTn.keep hb _ _ _ _ _ hr⟩, ihr _ hrest⟩
theorem RdTnL.low {P P' : Nat → Prop} {W : World} (hb : ∀ k, k < W.heap.size → P k → P' k) (ao : Option Addr) : ∀ (l : List Tm) j, RdTnL P W l ao j → RdTnL P' W l ao j := by
  intro l
  induction l with
  | nil => intro j _; rw [RdTnL]; trivial
  | cons t r ihr =>
    intro j h
    rw [RdTnL] at h ⊢
    obtain ⟨⟨g, of, d0, d1, d2, d3, e, hbg, hg, k0, k1, k2, k3, hr⟩, hrest⟩ := h
    exact ⟨⟨g, of, d0, d1, d2, d3, e, hb g hg hbg, hg, k0, k1, k2, k3, RdTn.low hb _ _ _ _ _ hr⟩, ihr _ hrest⟩
theorem RdTnL.plain {P : Nat → Prop} {W : World} (ao : Option Addr) : ∀ (l : List Tm) j, RdTnL P W l ao j → RdTL W l ao j := by
  intro l
  induction l with
  | nil => intro j _; rw [RdTL]; trivial
  | cons t r ihr =>
    intro j h
    rw [RdTnL] at h
    rw [RdTL]
    obtain ⟨⟨g, of, d0, d1, d2, d3, e, hbg, hg, k0, k1, k2, k3, hr⟩, hrest⟩ := h
    exact ⟨⟨g, of, d0, d1, d2, d3, e, hg, k0, k1, k2, k3, RdTn.plain _ _ _ _ _ hr⟩, ihr _ hrest⟩
mutual
def RdFn (P : Nat → Prop) (W : World) : Fm → Value → Value → Value → Value → Value → Prop
  | .mk o x m t a, c0, c1, c2, c3, c4 => c0 = .int .i64 o ∧ c1 = .string x ∧ c2 = .int .i64 m ∧ (I64 o ∧ I64 m ∧ Sz x.size) ∧ (∃ ao cap, c3 = .slice ao t.length cap ∧ t.length ≤ cap ∧ Sz cap ∧ RdTnL P W t ao 0) ∧ ∃ ao cap, c4 = .slice ao a.length cap ∧ a.length ≤ cap ∧ Sz cap ∧ RdFnL P W a ao 0
def RdFnL (P : Nat → Prop) (W : World) : List Fm → Option Addr → Nat → Prop
  | [], _, _ => True
  | t :: r, ao, i => (∃ g of c0 c1 c2 c3 c4, ao = some ⟨g, of, none⟩ ∧ P g ∧ g < W.heap.size ∧ W.cell? ⟨g, of + i * 5, none⟩ = some c0 ∧ W.cell? ⟨g, of + i * 5 + 1, none⟩ = some c1 ∧ W.cell? ⟨g, of + i * 5 + 2, none⟩ = some c2 ∧ W.cell? ⟨g, of + i * 5 + 3, none⟩ = some c3 ∧ W.cell? ⟨g, of + i * 5 + 4, none⟩ = some c4 ∧ RdFn P W t c0 c1 c2 c3 c4) ∧ RdFnL P W r ao (i + 1)
end
theorem RdFn.keep {P : Nat → Prop} {W W' : World} (hb : Hi P W W') : ∀ f c0 c1 c2 c3 c4, RdFn P W f c0 c1 c2 c3 c4 → RdFn P W' f c0 c1 c2 c3 c4 := by
  refine Fm.ind (fun o x m t a ih c0 c1 c2 c3 c4 h => ?_)
  rw [RdFn] at h ⊢
  obtain ⟨h0, h1, h2, h3, ⟨bo, bap, b4, b5, b6, b7⟩, ao, cap, h4, h5, h6, h7⟩ := h
  refine ⟨h0, h1, h2, h3, ⟨bo, bap, b4, b5, b6, b7.keep hb⟩, ao, cap, h4, h5, h6, ?_⟩
  have key : ∀ l : List Fm, (∀ t ∈ l, t ∈ a) → ∀ j, RdFnL P W l ao j → RdFnL P W' l ao j := by
    intro l
    induction l with
    | nil => intro _ j _; rw [RdFnL]; trivial
    | cons t r ihr =>
      intro hm j h
      rw [RdFnL] at h ⊢
      obtain ⟨⟨g, of, d0, d1, d2, d3, d4, e, hbg, hg, k0, k1, k2, k3, k4, hr⟩, hrest⟩ := h
      have hc : ∀ i, W'.cell? ⟨g, i, none⟩ = W.cell? ⟨g, i, none⟩ := fun i => World.cell?_of_block (w := W) (hb.block g hbg hg)
      exact ⟨⟨g, of, d0, d1, d2, d3, d4, e, hbg, Nat.lt_of_lt_of_le hg hb.size, (hc _).trans k0, (hc _).trans k1, (hc _).trans k2, (hc _).trans k3, (hc _).trans k4, ih t (hm t (List.mem_cons_self ..)) _ _ _ _ _ hr⟩, ihr (fun u hu => hm u (List.mem_cons_of_mem _ hu)) _ hrest⟩
  exact key a (fun _ h => h) 0 h7
theorem RdFn.low {P P' : Nat → Prop} {W : World} (hb : ∀ k, k < W.heap.size → P k → P' k) : ∀ f c0 c1 c2 c3 c4, RdFn P W f c0 c1 c2 c3 c4 → RdFn P' W f c0 c1 c2 c3 c4 := by
  refine Fm.ind (fun o x m t a ih c0 c1 c2 c3 c4 h => ?_)
  rw [RdFn] at h ⊢
  obtain ⟨h0, h1, h2, h3, ⟨bo, bap, b4, b5, b6, b7⟩, ao, cap, h4, h5, h6, h7⟩ := h
  refine ⟨h0, h1, h2, h3, ⟨bo, bap, b4, b5, b6, b7.low hb⟩, ao, cap, h4, h5, h6, ?_⟩
  have key : ∀ l : List Fm, (∀ t ∈ l, t ∈ a) → ∀ j, RdFnL P W l ao j → RdFnL P' W l ao j := by
    intro l
    induction l with
    | nil => intro _ j _; rw [RdFnL]; trivial
    | cons t r ihr =>
      intro hm j h
      rw [RdFnL] at h ⊢
      obtain ⟨⟨g, of, d0, d1, d2, d3, d4, e, hbg, hg, k0, k1, k2, k3, k4, hr⟩, hrest⟩ := h
      exact ⟨⟨g, of, d0, d1, d2, d3, d4, e, hb g hg hbg, hg, k0, k1, k2, k3, k4, ih t (hm t (List.mem_cons_self ..)) _ _ _ _ _ hr⟩, ihr (fun u hu => hm u (List.mem_cons_of_mem _ hu)) _ hrest⟩
  exact key a (fun _ h => h) 0 h7
theorem RdFn.plain {P : Nat → Prop} {W : World} : ∀ f c0 c1 c2 c3 c4, RdFn P W f c0 c1 c2 c3 c4 → RdF W f c0 c1 c2 c3 c4 := by
  refine Fm.ind (fun o x m t a ih c0 c1 c2 c3 c4 h => ?_)
  rw [RdFn] at h
  rw [RdF]
  obtain ⟨h0, h1, h2, h3, ⟨bo, bap, b4, b5, b6, b7⟩, ao, cap, h4, h5, h6, h7⟩ := h
  refine ⟨h0, h1, h2, h3, ⟨bo, bap, b4, b5, b6, b7.plain⟩, ao, cap, h4, h5, h6, ?_⟩
  have key : ∀ l : List Fm, (∀ t ∈ l, t ∈ a) → ∀ j, RdFnL P W l ao j → RdFL W l ao j := by
    intro l
    induction l with
    | nil => intro _ j _; rw [RdFL]; trivial
    | cons t r ihr =>
      intro hm j h
      rw [RdFnL] at h
      rw [RdFL]
      obtain ⟨⟨g, of, d0, d1, d2, d3, d4, e, hbg, hg, k0, k1, k2, k3, k4, hr⟩, hrest⟩ := h
      exact ⟨⟨g, of, d0, d1, d2, d3, d4, e, hg, k0, k1, k2, k3, k4, ih t (hm t (List.mem_cons_self ..)) _ _ _ _ _ hr⟩, ihr (fun u hu => hm u (List.mem_cons_of_mem _ hu)) _ hrest⟩
  exact key a (fun _ h => h) 0 h7
/-- a formula's value, written out, its lists in memory that P tells -/
def FmN (P : Nat → Prop) (W : World) (f : Fm) (v : Value) : Prop := ∃ o x m bo n1 c1 ao n2 c2, v = .agg #[.int .i64 o, .string x, .int .i64 m, .slice bo n1 c1, .slice ao n2 c2] ∧ RdFn P W f (.int .i64 o) (.string x) (.int .i64 m) (.slice bo n1 c1) (.slice ao n2 c2)
theorem FmN.keep {P : Nat → Prop} {W W' : World} {f : Fm} {v : Value} (h : FmN P W f v) (hb : Hi P W W') : FmN P W' f v := by
  obtain ⟨o, x, m, bo, n1, c1, ao, n2, c2, e, hr⟩ := h
  exact ⟨o, x, m, bo, n1, c1, ao, n2, c2, e, hr.keep hb⟩
theorem FmN.low {P P' : Nat → Prop} {W : World} {f : Fm} {v : Value} (h : FmN P W f v) (hb : ∀ k, k < W.heap.size → P k → P' k) : FmN P' W f v := by
  obtain ⟨o, x, m, bo, n1, c1, ao, n2, c2, e, hr⟩ := h
  exact ⟨o, x, m, bo, n1, c1, ao, n2, c2, e, hr.low hb⟩
theorem FmN.plain {P : Nat → Prop} {W : World} {f : Fm} {v : Value} (h : FmN P W f v) : FmV W f v := by
  obtain ⟨o, x, m, bo, n1, c1, ao, n2, c2, e, hr⟩ := h
  exact ⟨_, _, _, _, _, e, hr.plain⟩
abbrev zF : Array Value := #[.int .i64 0, .string emp, .int .i64 0, .slice none 0 0, .slice none 0 0]
theorem rb_five {w : World} {B : Nat} {vs : Array Value} {t : TypeId} (h : Rb w B vs t) (hs : vs.size = 5) (v0 v1 v2 v3 v4 : Value) : Rb (((((w.setCell ⟨B, 0, none⟩ v0).setCell ⟨B, 1, none⟩ v1).setCell ⟨B, 2, none⟩ v2).setCell ⟨B, 3, none⟩ v3).setCell ⟨B, 4, none⟩ v4) B #[v0, v1, v2, v3, v4] t := by
  have h1 := tx_set (tx_set (tx_set (tx_set (tx_set h 0 v0) 1 v1) 2 v2) 3 v3) 4 v4
  have e : ((((vs.setIfInBounds 0 v0).setIfInBounds 1 v1).setIfInBounds 2 v2).setIfInBounds 3 v3).setIfInBounds 4 v4 = #[v0, v1, v2, v3, v4] := by
    apply Array.ext
    · simp [hs]
    · intro i hi1 hi2
      simp only [Array.size_setIfInBounds, hs] at hi1
      rcases (show i = 0 ∨ i = 1 ∨ i = 2 ∨ i = 3 ∨ i = 4 by omega) with rfl | rfl | rfl | rfl | rfl <;> simp [hs]
  rw [e] at h1
  exact h1
theorem leafF {P : Nat → Prop} {W : World} (o m : Int) (nm : ByteArray) (hi : I64 o ∧ I64 m ∧ Sz nm.size) : RdFn P W (.mk o nm m [] []) (.int .i64 o) (.string nm) (.int .i64 m) (.slice none 0 0) (.slice none 0 0) := by
  rw [RdFn]
  exact ⟨rfl, rfl, rfl, hi, ⟨none, 0, rfl, Nat.le_refl _, by decide, by rw [RdTnL]; trivial⟩, none, 0, rfl, Nat.le_refl _, by decide, by rw [RdFnL]; trivial⟩
theorem rels_apart : ∀ i, i < 7 → ∀ j, j < 7 → rels.getD i emp = rels.getD j emp → i = j := by decide +kernel
theorem rels_mem {x : ByteArray} (h : x ∈ rels) : ∃ i, i < 7 ∧ rels.getD i emp = x := by
  simp only [rels, List.mem_cons, List.not_mem_nil, or_false] at h
  rcases h with rfl | rfl | rfl | rfl | rfl | rfl | rfl
  · exact ⟨0, by decide, rfl⟩
  · exact ⟨1, by decide, rfl⟩
  · exact ⟨2, by decide, rfl⟩
  · exact ⟨3, by decide, rfl⟩
  · exact ⟨4, by decide, rfl⟩
  · exact ⟨5, by decide, rfl⟩
  · exact ⟨6, by decide, rfl⟩
theorem mkF1 {P : Nat → Prop} {g : Nat} {W : World} {f : Fm} {c0 c1 c2 c3 c4 : Value} {t : TypeId} (h : RdFn P W f c0 c1 c2 c3 c4) (hg : W.heap.size = g) (hb : P g) (o m : Int) (nm : ByteArray) (hi : I64 o ∧ I64 m ∧ Sz nm.size) : RdFn P (W.alloc (.cells #[c0, c1, c2, c3, c4] t)) (.mk o nm m [] [f]) (.int .i64 o) (.string nm) (.int .i64 m) (.slice none 0 0) (.slice (some ⟨g, 0, none⟩) 1 1) := by
  have hR : Rb (W.alloc (.cells #[c0, c1, c2, c3, c4] t)) g #[c0, c1, c2, c3, c4] t := by rw [← hg]; exact rb_new W _ _
  have hk := h.keep (Hi.of (bal W (.cells #[c0, c1, c2, c3, c4] t)))
  rw [RdFn]
  refine ⟨rfl, rfl, rfl, hi, ⟨none, 0, rfl, Nat.le_refl _, by decide, by rw [RdTnL]; trivial⟩, some ⟨g, 0, none⟩, 1, rfl, Nat.le_refl _, by decide, ?_⟩
  rw [RdFnL, RdFnL]
  exact ⟨⟨g, 0, c0, c1, c2, c3, c4, rfl, hb, (Array.getElem?_eq_some_iff.1 hR).1, (txcell hR 0 _ rfl).1, (txcell hR 1 _ rfl).1, (txcell hR 2 _ rfl).1, (txcell hR 3 _ rfl).1, (txcell hR 4 _ rfl).1, hk⟩, trivial⟩
theorem mkA2 {P : Nat → Prop} {g : Nat} {W : World} {x y : Tm} {c0 c1 c2 c3 d0 d1 d2 d3 : Value} {t : TypeId} (h : RdTn P W x c0 c1 c2 c3) (k : RdTn P W y d0 d1 d2 d3) (hR : Rb W g #[c0, c1, c2, c3, d0, d1, d2, d3] t) (hb : P g) (o m : Int) (nm : ByteArray) (hi : I64 o ∧ I64 m ∧ Sz nm.size) : RdFn P W (.mk o nm m [x, y] []) (.int .i64 o) (.string nm) (.int .i64 m) (.slice (some ⟨g, 0, none⟩) 2 2) (.slice none 0 0) := by
  rw [RdFn]
  refine ⟨rfl, rfl, rfl, hi, ⟨some ⟨g, 0, none⟩, 2, rfl, Nat.le_refl _, by decide, ?_⟩, none, 0, rfl, Nat.le_refl _, by decide, by rw [RdFnL]; trivial⟩
  rw [RdTnL, RdTnL, RdTnL]
  exact ⟨⟨g, 0, c0, c1, c2, c3, rfl, hb, (Array.getElem?_eq_some_iff.1 hR).1, (txcell hR 0 _ rfl).1, (txcell hR 1 _ rfl).1, (txcell hR 2 _ rfl).1, (txcell hR 3 _ rfl).1, h⟩, ⟨g, 0, d0, d1, d2, d3, rfl, hb, (Array.getElem?_eq_some_iff.1 hR).1, (txcell hR 4 _ rfl).1, (txcell hR 5 _ rfl).1, (txcell hR 6 _ rfl).1, (txcell hR 7 _ rfl).1, k⟩, trivial⟩
end Go.Proofs.YtabfhdmcljdjhaaGreatDoor.Gl
