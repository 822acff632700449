/- Three sets beside three: a statement whose order is open and that asks alone, over the class of worlds in which the sets lie as they lie. -/
import Derived.Test.YtholafecbmhhhaaPlayD
import Derived.Deep.QuietTactic
import Derived.BigQuiet
namespace Go.Proofs.Ytholafecbmhhhaa.Dg
open Go.RowKit
set_option linter.unusedVariables false

structure Cls (B : Nat) (W1 : World) (Sb Wb : Nat) (E : Nat → One) where
  w : World
  pl : Pl B w Sb Wb 3 E
  bel : Below B W1 w
theorem wp_region_cls {P : Program} {id : Nat} {Q : Exit → Act → World → Prop} {a : Act} {w : World} {l : List Oper} (C : World → Prop) (hm : P.follows .mixedOrders = true) (hB : Region.lexB .any l.toArray = true) (hC : C w.drew)
    (h : wpQuiet P l.toArray C (fun a' => ∀ w', C w' → Q .normal a' w') l a) : (Code.region id l.toArray true).wp P Q a w :=
  wp_region_quiet hm hB hC (by simpa using h)
theorem cls_call {B : Nat} {W1 : World} {Sb Wb : Nat} {E : Nat → One} {f : FuncId} {args : Array Value} {v : Value} (hB : B ≤ W1.heap.size) (h : ∀ w, Pl B w Sb Wb 3 E → Calls Try.prog f args w fun e w' => e = .returned v ∧ Below w.heap.size w w') (n : Cls B W1 Sb Wb E) :
    Calls Try.prog f args n.w fun e w'' => e = .returned v ∧ ∃ m : Cls B W1 Sb Wb E, w'' = m.w :=
  (h n.w n.pl).mono fun e w' ⟨he, hb⟩ => ⟨he, ⟨w', n.pl.below (Nat.le_refl _) hb, n.bel.trans (hb.mono (Nat.le_trans hB n.bel.size))⟩, rfl⟩
theorem bytes_ne {a b : ByteArray} (h : ¬ a = b) : (a.toList == b.toList) = false := by
  rw [beq_eq_false_iff_ne]
  intro e
  rw [ByteArray.toList_eq, ByteArray.toList_eq] at e
  apply h
  cases a
  cases b
  simp only at e
  rw [Array.toList_inj.1 e]
end Go.Proofs.Ytholafecbmhhhaa.Dg
