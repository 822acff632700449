/- The document's reader: pair; what a fold keeps. -/
import Derived.Test.YtabfhdmcljdjhaaGreatDoorDcV
namespace Go.Proofs.YtabfhdmcljdjhaaGreatDoor.Gl
open Go.RowKit
set_option linter.unusedVariables false
set_option linter.unusedSimpArgs false

theorem KpB.refl (r : Option Nat) (w : World) : KpB r w w := ⟨rfl, rfl, rfl, Nat.le_refl _, fun _ _ _ => rfl⟩
theorem KpB.of {r : Option Nat} {w w' : World} (h : Below w.heap.size w w') : KpB r w w' := ⟨h.os, h.tape, h.output, h.size, fun k hk _ => h.block k hk⟩
theorem KpB.trans {r : Option Nat} {w w1 w2 : World} (h : KpB r w w1) (k : KpB r w1 w2) : KpB r w w2 :=
  ⟨k.os.trans h.os, k.tape.trans h.tape, k.output.trans h.output, Nat.le_trans h.size k.size, fun i hi hn => (k.block i (Nat.lt_of_lt_of_le hi h.size) hn).trans (h.block i hi hn)⟩
theorem KpB.setB {B : Nat} {w w' : World} (h : KpB (some B) w w') (i : Nat) (v : Value) : KpB (some B) w (w'.setCell ⟨B, i, none⟩ v) :=
  ⟨h.os, h.tape, h.output, Nat.le_trans h.size ((Below.refl 0 w').setCell (p := ⟨B, i, none⟩) (Nat.zero_le _) v).size, fun k hk hne => (Below.heap_setCell _ _ _ k (fun e => hne (by rw [e]))).trans (h.block k hk hne)⟩
theorem KpB.st5 {B : Nat} {w w' : World} (h : KpB (some B) w w') (v0 v1 v2 v3 v4 : Value) : KpB (some B) w (st5 w' B v0 v1 v2 v3 v4) := ((((h.setB 0 v0).setB 1 v1).setB 2 v2).setB 3 v3).setB 4 v4
theorem op_fits (n : Nat) : I64 (opOf n) := by
  unfold opOf
  split <;> decide
abbrev pairV (op : Int) (g : Nat) : FV := ⟨op, emp, 0, none, 0, 0, some ⟨g, 0, none⟩, 2, 2⟩
abbrev FV.two (a b : FV) : Array Value := #[.int .i64 a.o, .string a.x, .int .i64 a.m, .slice a.bo a.n1 a.c1, .slice a.ao a.n a.c, .int .i64 b.o, .string b.x, .int .i64 b.m, .slice b.bo b.n1 b.c1, .slice b.ao b.n b.c]
set_option maxRecDepth 100000 in
set_option maxHeartbeats 4000000 in
theorem dpair_at (o : Int) (a b : FV) (w : World) : Calls Tryz.prog 41 #[.int .i64 o, .agg a.arr, .agg b.arr] w fun e w' => ∃ g, e = .returned (.agg (pairV o g).arr) ∧ w.heap.size ≤ g ∧ Rb w' g (a.two b) 26 ∧ Below w.heap.size w w' := by
  have hA := (((rb_new w a.arr 26).keep (bal _ (.cells b.arr 26))).keep (bal _ (.cells zF 26)))
  have hB := (rb_new (w.alloc (.cells a.arr 26)) b.arr 26).keep (bal _ (.cells zF 26))
  have hC4 := (rb_new ((w.alloc (.cells a.arr 26)).alloc (.cells b.arr 26)) zF 26).keep (bal _ (.cells (a.two b) 26))
  have hE := (rb_new ((w.alloc (.cells a.arr 26)).alloc (.cells b.arr 26)) #[.int .i64 o, .string emp, .int .i64 0, .slice none 0 0, .slice (some ⟨w.heap.size + 1 + 1 + 1, 0, none⟩) 2 2] 26).keep (bal _ (.cells (a.two b) 26))
  have hD := rb_new (((w.alloc (.cells a.arr 26)).alloc (.cells b.arr 26)).alloc (.cells #[.int .i64 o, .string emp, .int .i64 0, .slice none 0 0, .slice (some ⟨w.heap.size + 1 + 1 + 1, 0, none⟩) 2 2] 26)) (a.two b) 26
  have hb4 : Below w.heap.size w ((((w.alloc (.cells a.arr 26)).alloc (.cells b.arr 26)).alloc (.cells #[.int .i64 o, .string emp, .int .i64 0, .slice none 0 0, .slice (some ⟨w.heap.size + 1 + 1 + 1, 0, none⟩) 2 2] 26)).alloc (.cells (a.two b) 26)) := bta (bta (bta (bal w _) _) _) _
  simp only [World.size_alloc] at hB hC4 hD hE
  obtain ⟨a0, -⟩ := txcell hA 0 _ rfl
  obtain ⟨a1, -⟩ := txcell hA 1 _ rfl
  obtain ⟨a2, -⟩ := txcell hA 2 _ rfl
  obtain ⟨a3, -⟩ := txcell hA 3 _ rfl
  obtain ⟨a4, -⟩ := txcell hA 4 _ rfl
  obtain ⟨b0, -⟩ := txcell hB 0 _ rfl
  obtain ⟨b1, -⟩ := txcell hB 1 _ rfl
  obtain ⟨b2, -⟩ := txcell hB 2 _ rfl
  obtain ⟨b3, -⟩ := txcell hB 3 _ rfl
  obtain ⟨b4, -⟩ := txcell hB 4 _ rfl
  obtain ⟨c0, f0⟩ := txcell hC4 0 _ rfl
  obtain ⟨c1, f1⟩ := txcell hC4 1 _ rfl
  obtain ⟨c2, f2⟩ := txcell hC4 2 _ rfl
  obtain ⟨c3, f3⟩ := txcell hC4 3 _ rfl
  obtain ⟨c4, f4⟩ := txcell hC4 4 _ rfl
  obtain ⟨k0, -⟩ := txcell hE 0 _ rfl
  obtain ⟨k1, -⟩ := txcell hE 1 _ rfl
  obtain ⟨k2, -⟩ := txcell hE 2 _ rfl
  obtain ⟨k3, -⟩ := txcell hE 3 _ rfl
  obtain ⟨k4, -⟩ := txcell hE 4 _ rfl
  go_enter Tryz.func41, Tryz.ntmps41
  go_wp2
  exact bodyPost_ret (v := .agg #[.int .i64 o, .string emp, .int .i64 0, .slice none 0 0, .slice (some ⟨w.heap.size + 1 + 1 + 1, 0, none⟩) 2 2]) (by simp [results, Tryz.results41, go_sem, k0, k1, k2, k3, k4]) rfl ⟨w.heap.size + 1 + 1 + 1, rfl, by omega, hD, hb4⟩
end Go.Proofs.YtabfhdmcljdjhaaGreatDoor.Gl
