/- The document's Rises, Sorted. -/
import Derived.Test.YtiapkblebbcfbaaGreatGlH
import Derived.Deep.RegionWith
import Derived.Deep.RegionHeld3
import Derived.Deep.QuietTactic
import Derived.BigQuiet
import Derived.Deep.DrawnRows
namespace Go.Proofs.YtiapkblebbcfbaaGreat.Gl
open Go.RowKit
set_option linter.unusedVariables false

theorem wrap_nat {q : Nat} (h : q ≤ 9223372036854775807) : IntKind.i64.wrap (q : Int) = (q : Int) := by
  rw [IntKind.wrap_i64]; omega
structure Cl (B : Nat) (W : World) (p : Addr) (v : Value) where
  w : World
  cell : w.cell? p = some v
  bel : Below B W w
theorem cl_call {B : Nat} {W : World} {p : Addr} {u : Value} {f : FuncId} {args : Array Value} {v : Value} (hB : B ≤ W.heap.size) (h : ∀ w, Calls Tryz.prog f args w fun e w' => e = .returned v ∧ Below w.heap.size w w') (n : Cl B W p u) :
    Calls Tryz.prog f args n.w fun e w'' => e = .returned v ∧ ∃ m : Cl B W p u, w'' = m.w :=
  (h n.w).mono fun e w' ⟨he, hb⟩ => ⟨he, ⟨w', (hb.cell (World.block_lt_of_cell? _ _ n.cell)).trans n.cell, n.bel.trans (hb.mono (Nat.le_trans hB n.bel.size))⟩, rfl⟩
theorem wp_region_cls {P : Program} {id : Nat} {Q : Exit → Act → World → Prop} {a : Act} {w : World} {l : List Oper} (C : World → Prop) (hm : P.follows .mixedOrders = true) (hB : Region.lexB .any l.toArray = true) (hC : C w.drew)
    (h : wpQuiet P l.toArray C (fun a' => ∀ w', C w' → Q .normal a' w') l a) : (Code.region id l.toArray true).wp P Q a w :=
  wp_region_quiet hm hB hC (by simpa using h)
/-- the texts are no longer than a text may be -/
def Short (T : List ByteArray) : Prop := ∀ x ∈ T, x.size ≤ 9223372036854775807
theorem Short.get {T : List ByteArray} (h : Short T) {i : Nat} (hi : i < T.length) : (T.getD i emp).size ≤ 9223372036854775807 := by
  rw [sgetD_of hi]; exact h _ (List.getElem_mem hi)
def RiseAt (T : List ByteArray) (i : Nat) : Prop := IsName (T.getD i emp) ∧ (0 < i → ltS (T.getD (i - 1) emp) (T.getD i emp) = true)
def Rise (T : List ByteArray) : Prop := ∀ i, i < T.length → RiseAt T i
theorem name_yes (s : ByteArray) (w : World) (hs : s.size ≤ 9223372036854775807) (h : IsName s) : Calls Tryz.prog 89 #[.string s] w fun e w' => e = .returned (.bool true) ∧ Below w.heap.size w w' := rname_at s true w hs ⟨fun _ => h, fun _ => rfl⟩
theorem name_not (s : ByteArray) (w : World) (hs : s.size ≤ 9223372036854775807) (h : ¬ IsName s) : Calls Tryz.prog 89 #[.string s] w fun e w' => e = .returned (.bool false) ∧ Below w.heap.size w w' := rname_at s false w hs ⟨fun e => (by cases e), fun e => absurd e h⟩
end Go.Proofs.YtiapkblebbcfbaaGreat.Gl
