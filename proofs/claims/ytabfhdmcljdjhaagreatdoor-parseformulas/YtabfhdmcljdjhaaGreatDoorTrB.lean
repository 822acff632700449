/- The document's Rises, Sorted. -/
import Derived.Test.YtabfhdmcljdjhaaGreatDoorGlH
import Derived.Deep.RegionWith
import Derived.Deep.RegionHeld3
import Derived.Deep.QuietTactic
import Derived.BigQuiet
import Derived.Deep.DrawnRows
import Derived.Test.YtabfhdmcljdjhaaGreatDoorGlN
import Derived.Test.YtabfhdmcljdjhaaGreatDoorPaA
namespace Go.Proofs.YtabfhdmcljdjhaaGreatDoor.Gl
open Go.RowKit
set_option linter.unusedVariables false

theorem wrap_nat {q : Nat} (h : q ≤ 9223372036854775807) : IntKind.i64.wrap (q : Int) = (q : Int) := by
  rw [IntKind.wrap_i64]; omega
structure Cl (B : Nat) (W : World) (p : Addr) (v : Value) where
  w : World
  cell : w.cell? p = some v
  bel : Below B W w
theorem cl_call {B : Nat} {W : World} {p : Addr} {u : Value} {f : FuncId} {args : Array Value} {v : Value} (hB : B ≤ W.heap.size) (h : ∀ w, Calls Tryz.prog f args w fun e w' => e = .returned v ∧ Below w.heap.size w w') (n : Cl B W p u) :
    Calls Tryz.prog f args n.w fun e w'' => e = .returned v ∧ ∃ m : Cl B W p u, w'' = m.w :=
  (h n.w).mono fun e w' ⟨he, hb⟩ => ⟨he, ⟨w', (hb.cell (World.block_lt_of_cell? _ _ n.cell)).trans n.cell, n.bel.trans (hb.mono (Nat.le_trans hB n.bel.size))⟩, rfl⟩
theorem wp_region_cls {P : Program} {id : Nat} {Q : Exit → Act → World → Prop} {a : Act} {w : World} {l : List Oper} (C : World → Prop) (hm : P.follows .mixedOrders = true) (hB : Region.lexB .any l.toArray = true) (hC : C w.drew)
    (h : wpQuiet P l.toArray C (fun a' => ∀ w', C w' → Q .normal a' w') l a) : (Code.region id l.toArray true).wp P Q a w :=
  wp_region_quiet hm hB hC (by simpa using h)
/-- the texts are no longer than a text may be -/
def Short (T : List ByteArray) : Prop := ∀ x ∈ T, x.size ≤ 9223372036854775807
theorem Short.get {T : List ByteArray} (h : Short T) {i : Nat} (hi : i < T.length) : (T.getD i emp).size ≤ 9223372036854775807 := by
  rw [sgetD_of hi]; exact h _ (List.getElem_mem hi)
def RiseAt (T : List ByteArray) (i : Nat) : Prop := IsName (T.getD i emp) ∧ (0 < i → ltS (T.getD (i - 1) emp) (T.getD i emp) = true)
def Rise (T : List ByteArray) : Prop := ∀ i, i < T.length → RiseAt T i
theorem name_yes (s : ByteArray) (w : World) (hs : s.size ≤ 9223372036854775807) (h : IsName s) : Calls Tryz.prog 76 #[.string s] w fun e w' => e = .returned (.bool true) ∧ Below w.heap.size w w' := rname_at s true w hs ⟨fun _ => h, fun _ => rfl⟩
theorem name_not (s : ByteArray) (w : World) (hs : s.size ≤ 9223372036854775807) (h : ¬ IsName s) : Calls Tryz.prog 76 #[.string s] w fun e w' => e = .returned (.bool false) ∧ Below w.heap.size w w' := rname_at s false w hs ⟨fun e => (by cases e), fun e => absurd e h⟩
end Go.Proofs.YtabfhdmcljdjhaaGreatDoor.Gl
/- Trees in memory. -/
namespace Go.Proofs.YtabfhdmcljdjhaaGreatDoor.Gl
open Go.RowKit
set_option linter.unusedVariables false

noncomputable def nmB (x : ByteArray) : Bool := @decide (IsName x) (Classical.propDecidable _)
theorem nmB_iff (x : ByteArray) : nmB x = true ↔ IsName x := by
  unfold nmB
  exact @decide_eq_true_iff _ (Classical.propDecidable _)
abbrev I64 (z : Int) : Prop := -9223372036854775808 ≤ z ∧ z ≤ 9223372036854775807
abbrev Sz (n : Nat) : Prop := n ≤ 9223372036854775807
/- a term's four cells, a formula's five; a slice of each -/
mutual
def RdT (W : World) : Tm → Value → Value → Value → Value → Prop
  | .mk o n x a, c0, c1, c2, c3 => c0 = .int .i64 o ∧ c1 = .int .i64 n ∧ c2 = .string x ∧ (I64 o ∧ I64 n ∧ Sz x.size) ∧ ∃ ao cap, c3 = .slice ao a.length cap ∧ a.length ≤ cap ∧ Sz cap ∧ RdTL W a ao 0
def RdTL (W : World) : List Tm → Option Addr → Nat → Prop
  | [], _, _ => True
  | t :: r, ao, i => (∃ g of c0 c1 c2 c3, ao = some ⟨g, of, none⟩ ∧ g < W.heap.size ∧ W.cell? ⟨g, of + i * 4, none⟩ = some c0 ∧ W.cell? ⟨g, of + i * 4 + 1, none⟩ = some c1 ∧ W.cell? ⟨g, of + i * 4 + 2, none⟩ = some c2 ∧ W.cell? ⟨g, of + i * 4 + 3, none⟩ = some c3 ∧ RdT W t c0 c1 c2 c3) ∧ RdTL W r ao (i + 1)
end
mutual
def RdF (W : World) : Fm → Value → Value → Value → Value → Value → Prop
  | .mk o x m t a, c0, c1, c2, c3, c4 => c0 = .int .i64 o ∧ c1 = .string x ∧ c2 = .int .i64 m ∧ (I64 o ∧ I64 m ∧ Sz x.size) ∧ (∃ ao cap, c3 = .slice ao t.length cap ∧ t.length ≤ cap ∧ Sz cap ∧ RdTL W t ao 0) ∧ ∃ ao cap, c4 = .slice ao a.length cap ∧ a.length ≤ cap ∧ Sz cap ∧ RdFL W a ao 0
def RdFL (W : World) : List Fm → Option Addr → Nat → Prop
  | [], _, _ => True
  | t :: r, ao, i => (∃ g of c0 c1 c2 c3 c4, ao = some ⟨g, of, none⟩ ∧ g < W.heap.size ∧ W.cell? ⟨g, of + i * 5, none⟩ = some c0 ∧ W.cell? ⟨g, of + i * 5 + 1, none⟩ = some c1 ∧ W.cell? ⟨g, of + i * 5 + 2, none⟩ = some c2 ∧ W.cell? ⟨g, of + i * 5 + 3, none⟩ = some c3 ∧ W.cell? ⟨g, of + i * 5 + 4, none⟩ = some c4 ∧ RdF W t c0 c1 c2 c3 c4) ∧ RdFL W r ao (i + 1)
end
theorem RdTL.get {W : World} {l : List Tm} {ao : Option Addr} {j : Nat} (h : RdTL W l ao j) : ∀ i (hi : i < l.length), ∃ g of c0 c1 c2 c3, ao = some ⟨g, of, none⟩ ∧ g < W.heap.size ∧ W.cell? ⟨g, of + (j + i) * 4, none⟩ = some c0 ∧ W.cell? ⟨g, of + (j + i) * 4 + 1, none⟩ = some c1 ∧ W.cell? ⟨g, of + (j + i) * 4 + 2, none⟩ = some c2 ∧ W.cell? ⟨g, of + (j + i) * 4 + 3, none⟩ = some c3 ∧ RdT W l[i] c0 c1 c2 c3 := by
  induction l generalizing j with
  | nil => intro i hi; simp at hi
  | cons t r ih =>
    intro i hi
    rw [RdTL] at h
    cases i with
    | zero => exact h.1
    | succ i =>
      have := ih h.2 i (by simpa using hi)
      rw [show j + 1 + i = j + (i + 1) by omega] at this
      exact this
theorem RdFL.get {W : World} {l : List Fm} {ao : Option Addr} {j : Nat} (h : RdFL W l ao j) : ∀ i (hi : i < l.length), ∃ g of c0 c1 c2 c3 c4, ao = some ⟨g, of, none⟩ ∧ g < W.heap.size ∧ W.cell? ⟨g, of + (j + i) * 5, none⟩ = some c0 ∧ W.cell? ⟨g, of + (j + i) * 5 + 1, none⟩ = some c1 ∧ W.cell? ⟨g, of + (j + i) * 5 + 2, none⟩ = some c2 ∧ W.cell? ⟨g, of + (j + i) * 5 + 3, none⟩ = some c3 ∧ W.cell? ⟨g, of + (j + i) * 5 + 4, none⟩ = some c4 ∧ RdF W l[i] c0 c1 c2 c3 c4 := by
  induction l generalizing j with
  | nil => intro i hi; simp at hi
  | cons t r ih =>
    intro i hi
    rw [RdFL] at h
    cases i with
    | zero => exact h.1
    | succ i =>
      have := ih h.2 i (by simpa using hi)
      rw [show j + 1 + i = j + (i + 1) by omega] at this
      exact this
/-- a term as a value -/
def TmV (W : World) (t : Tm) (v : Value) : Prop := ∃ c0 c1 c2 c3, v = .agg #[c0, c1, c2, c3] ∧ RdT W t c0 c1 c2 c3
def FmV (W : World) (f : Fm) (v : Value) : Prop := ∃ c0 c1 c2 c3 c4, v = .agg #[c0, c1, c2, c3, c4] ∧ RdF W f c0 c1 c2 c3 c4
theorem res_keep {w w4 : World} {vs : Array Value} {t : TypeId} (hb : Below (w.alloc (.cells vs t)).heap.size (w.alloc (.cells vs t)) w4) :
    (∀ ob o, (w4.alloc ob).cell? ⟨w.heap.size, o, none⟩ = vs[o]?) ∧ (∀ ob o, (w4.alloc ob).frozen? ⟨w.heap.size, o, none⟩ = false) ∧ (∀ o, w4.cell? ⟨w.heap.size, o, none⟩ = vs[o]?) ∧ ∀ o, w4.frozen? ⟨w.heap.size, o, none⟩ = false := by
  refine ⟨fun ob o => ?_, fun ob o => ?_, fun o => ?_, fun o => ?_⟩
  · rw [(bcell (bta hb ob)).1 _ _ (by simp)]; simp
  · rw [(bcell (bta hb ob)).2 _ _ (by simp)]; simp
  · rw [(bcell hb).1 _ _ (by simp)]; simp
  · rw [(bcell hb).2 _ _ (by simp)]; simp
theorem ba2 {w : World} {o : Obj} {w2 : World} (h : Below (w.alloc o).heap.size (w.alloc o) w2) : Below w.heap.size w w2 := ((Below.refl _ _).alloc (Nat.le_refl _) o).trans (h.mono (by simp))
/- kept by what keeps memory -/
theorem RdT.kept {W W' : World} (hb : Below W.heap.size W W') : ∀ t c0 c1 c2 c3, RdT W t c0 c1 c2 c3 → RdT W' t c0 c1 c2 c3 := by
  refine Tm.ind (fun o n x a ih c0 c1 c2 c3 h => ?_)
  rw [RdT] at h ⊢
  obtain ⟨h0, h1, h2, h3, ao, cap, h4, h5, h6, h7⟩ := h
  refine ⟨h0, h1, h2, h3, ao, cap, h4, h5, h6, ?_⟩
  have key : ∀ l : List Tm, (∀ t ∈ l, t ∈ a) → ∀ j, RdTL W l ao j → RdTL W' l ao j := by
    intro l
    induction l with
    | nil => intro _ j _; rw [RdTL]; trivial
    | cons t r ihr =>
      intro hm j h
      rw [RdTL] at h ⊢
      obtain ⟨⟨g, of, d0, d1, d2, d3, e, hg, k0, k1, k2, k3, hr⟩, hrest⟩ := h
      refine ⟨⟨g, of, d0, d1, d2, d3, e, Nat.lt_of_lt_of_le hg hb.size, ?_, ?_, ?_, ?_, ih t (hm t (List.mem_cons_self ..)) _ _ _ _ hr⟩, ihr (fun u hu => hm u (List.mem_cons_of_mem _ hu)) _ hrest⟩
      · exact (hb.cell (p := ⟨g, _, none⟩) hg).trans k0
      · exact (hb.cell (p := ⟨g, _, none⟩) hg).trans k1
      · exact (hb.cell (p := ⟨g, _, none⟩) hg).trans k2
      · exact (hb.cell (p := ⟨g, _, none⟩) hg).trans k3
  exact key a (fun _ h => h) 0 h7
theorem RdTL.kept {W W' : World} (hb : Below W.heap.size W W') (ao : Option Addr) : ∀ l j, RdTL W l ao j → RdTL W' l ao j := by
  intro l
  induction l with
  | nil => intro j _; rw [RdTL]; trivial
  | cons t r ihr =>
    intro j h
    rw [RdTL] at h ⊢
    obtain ⟨⟨g, of, d0, d1, d2, d3, e, hg, k0, k1, k2, k3, hr⟩, hrest⟩ := h
    refine ⟨⟨g, of, d0, d1, d2, d3, e, Nat.lt_of_lt_of_le hg hb.size, ?_, ?_, ?_, ?_, hr.kept hb⟩, ihr _ hrest⟩
    · exact (hb.cell (p := ⟨g, _, none⟩) hg).trans k0
    · exact (hb.cell (p := ⟨g, _, none⟩) hg).trans k1
    · exact (hb.cell (p := ⟨g, _, none⟩) hg).trans k2
    · exact (hb.cell (p := ⟨g, _, none⟩) hg).trans k3
theorem RdF.kept {W W' : World} (hb : Below W.heap.size W W') : ∀ f c0 c1 c2 c3 c4, RdF W f c0 c1 c2 c3 c4 → RdF W' f c0 c1 c2 c3 c4 := by
  refine Fm.ind (fun o x m t a ih c0 c1 c2 c3 c4 h => ?_)
  rw [RdF] at h ⊢
  obtain ⟨h0, h1, h2, h3, ⟨bo, bap, b4, b5, b6, b7⟩, ao, cap, h4, h5, h6, h7⟩ := h
  refine ⟨h0, h1, h2, h3, ⟨bo, bap, b4, b5, b6, b7.kept hb⟩, ao, cap, h4, h5, h6, ?_⟩
  have key : ∀ l : List Fm, (∀ t ∈ l, t ∈ a) → ∀ j, RdFL W l ao j → RdFL W' l ao j := by
    intro l
    induction l with
    | nil => intro _ j _; rw [RdFL]; trivial
    | cons t r ihr =>
      intro hm j h
      rw [RdFL] at h ⊢
      obtain ⟨⟨g, of, d0, d1, d2, d3, d4, e, hg, k0, k1, k2, k3, k4, hr⟩, hrest⟩ := h
      refine ⟨⟨g, of, d0, d1, d2, d3, d4, e, Nat.lt_of_lt_of_le hg hb.size, ?_, ?_, ?_, ?_, ?_, ih t (hm t (List.mem_cons_self ..)) _ _ _ _ _ hr⟩, ihr (fun u hu => hm u (List.mem_cons_of_mem _ hu)) _ hrest⟩
      · exact (hb.cell (p := ⟨g, _, none⟩) hg).trans k0
      · exact (hb.cell (p := ⟨g, _, none⟩) hg).trans k1
      · exact (hb.cell (p := ⟨g, _, none⟩) hg).trans k2
      · exact (hb.cell (p := ⟨g, _, none⟩) hg).trans k3
      · exact (hb.cell (p := ⟨g, _, none⟩) hg).trans k4
  exact key a (fun _ h => h) 0 h7
theorem RdF.keep {W W' : World} {f : Fm} {c0 c1 c2 c3 c4 : Value} (h : RdF W f c0 c1 c2 c3 c4) (hb : Below W.heap.size W W') : RdF W' f c0 c1 c2 c3 c4 := RdF.kept hb f _ _ _ _ _ h
end Go.Proofs.YtabfhdmcljdjhaaGreatDoor.Gl
