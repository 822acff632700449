/- What a round keeps of the memory of a walk over nodes. -/
import Derived.Test.YtncgmnijgdfenaaDoorTrB
import Derived.Test.YtncgmnijgdfenaaDoorNdA
import Derived.RangeFuncNested
import Derived.RangeFuncBound
import Derived.RangeFuncCalls
import Derived.RangeFuncLeaves
import Derived.Shelf.Abstract
import Derived.Shelf.RegionOpen
import Derived.WalkKit
import Derived.OwnWalkIn
import Derived.TacticsInMore
import Derived.LoopNIn
import Derived.LoopIn
namespace Go.Proofs.YtncgmnijgdfenaaDoor.Gl
open Go.RowKit Go.Shelf
set_option linter.unusedVariables false

/- a node as a value -/
abbrev ndC (x : Nd) : Array Value := #[.int .i64 x.dp, .bool x.isT, .int .i64 x.op, .int .i64 x.top, .string x.name, .int .i64 x.num, .int .i64 (x.terms : Nat), .int .i64 (x.args : Nat)]
abbrev ndV (x : Nd) : Value := .agg (ndC x)
abbrev NdS := { x : Nd // Sz x.name.size }
/- the types of what a walk lays -/
def WalkTy (t : TypeId) : Prop := t = 26 ∨ t = 36 ∨ t = 79
structure Kp (lo : Nat) (W W' : World) : Prop where
  below : Below lo W W'
  same : ∀ (k : Nat) (vs : Array Value) (t : TypeId) (m : Nat × Nat), WalkTy t → W.heap[k]? = some (Obj.cells vs t m) → W'.heap[k]? = some (Obj.cells vs t m)
theorem Kp.refl (lo : Nat) (W : World) : Kp lo W W := ⟨Below.refl _ _, fun _ _ _ _ _ h => h⟩
theorem Kp.trans {lo : Nat} {A B C : World} (h : Kp lo A B) (k : Kp lo B C) : Kp lo A C := ⟨h.below.trans k.below, fun i vs t m ht hi => k.same i vs t m ht (h.same i vs t m ht hi)⟩
theorem Kp.of {lo : Nat} {W W' : World} (h : Below W.heap.size W W') (hlo : lo ≤ W.heap.size) : Kp lo W W' :=
  ⟨h.mono hlo, fun k vs t m _ hk => (h.block k (Array.getElem?_eq_some_iff.1 hk).1).trans hk⟩
theorem Kp.one {lo b : Nat} {W W' : World} (h : W.grownBy W' (some b)) (hlo : lo ≤ W.heap.size) (hb : lo ≤ b) (ht : ∀ (vs : Array Value) (t : TypeId) (m : Nat × Nat), W.heap[b]? = some (Obj.cells vs t m) → ¬ WalkTy t) : Kp lo W W' :=
  ⟨(Below.refl lo W).grown h hlo (fun k e => by cases e; exact hb), fun k vs t m hw hk => (h.block k (Array.getElem?_eq_some_iff.1 hk).1 (fun e => by cases e; exact ht vs t m hk hw)).trans hk⟩
theorem Kp.put {lo : Nat} {w : World} (hlo : lo ≤ w.heap.size) : ∀ (W : World) (l : Nat) (o o' : Obj), w.heap.size ≤ l → W.heap[l]? = some o → o.isCells = false → o.isWalk = false → Kp lo W (W.putObj l o') := by
  intro W l o o' hl ho hc _
  have hlt := (Array.getElem?_eq_some_iff.1 ho).1
  refine Kp.one (b := l) (grownBy_putObj' W l o') (by omega) (by omega) (fun vs t m h => ?_)
  rw [ho] at h
  cases h
  cases hc
theorem Kp.cell {lo : Nat} {W W' : World} (h : Kp lo W W') {b : Nat} {vs : Array Value} {t : TypeId} {m : Nat × Nat} (ht : WalkTy t) (hb : W.heap[b]? = some (.cells vs t m)) (i : Nat) : W'.cell? ⟨b, i, none⟩ = W.cell? ⟨b, i, none⟩ :=
  World.cell?_of_block (w := W) ((h.same b vs t m ht hb).trans hb.symm)
theorem grown_of {W W' : World} (h : Below W.heap.size W W') : W.grownBy W' none := ⟨h.os, h.tape, h.output, h.size, fun k hk _ => h.block k hk⟩
/- where no depth is asked the figures are all one -/
theorem room_none {F : Fence} (hd : F.depth = none) (k : Nat) : F.room k := fun d h => by rw [hd] at h; cases h
theorem yield_any {F : Fence} (hd : F.depth = none) {m : Nat} (m' : Nat) {P : Program} {l : Nat} {args : Array Value} {W : World} {R : Ending → World → Prop} (h : YieldAt F m P l args W R) : YieldAt F m' P l args W R := by
  obtain ⟨fn, tmps, assign, body, hy, hR⟩ := h
  exact ⟨fn, tmps, assign, body, hy, hR.1, fun c cs _ => hR.2 c cs (room_none hd _)⟩
/-- a round -/
abbrev Rd (Pd : Nd → Prop) (l lo N : Nat) (J Jx : List Nd → World → Prop) : Prop := ∀ m pre (x : Nd) W, Pd x → J pre W → pre.length < N → YieldAt Fence.wide m Tryd.prog l #[ndV x] W fun e W' =>
  (e = .returned (.bool true) ∧ J (pre ++ [x]) W' ∧ Kp lo W W') ∨ (e = .returned (.bool false) ∧ Jx (pre ++ [x]) W')
/-- what a walk over the nodes ns answers -/
abbrev WalkR (lo : Nat) (J Jx : List Nd → World → Prop) (pre ns : List Nd) (w : World) : Ending → World → Prop := fun e w' =>
  (e = .returned (.bool true) ∧ J (pre ++ ns) w' ∧ Kp lo w w') ∨ (e = .returned (.bool false) ∧ ∃ q, q <+: ns ∧ Jx (pre ++ q) w')
end Go.Proofs.YtncgmnijgdfenaaDoor.Gl
