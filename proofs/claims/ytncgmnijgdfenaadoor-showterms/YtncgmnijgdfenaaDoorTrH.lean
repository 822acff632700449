/- The document's Measure, Check; sameTerm. -/
import Derived.Test.YtncgmnijgdfenaaDoorTrG
namespace Go.Proofs.YtncgmnijgdfenaaDoor.Gl
open Go.RowKit
set_option linter.unusedVariables false

theorem heap3_new (w : World) (A B C : Obj) : (((w.alloc A).alloc B).alloc C).heap[w.heap.size + 2]? = some C := by
  have := heap_alloc_new ((w.alloc A).alloc B) C
  rwa [World.size_alloc, World.size_alloc] at this
theorem cell_newO (W : World) (vs : Array Value) (t : TypeId) (b : Nat) (hb : W.heap.size = b) (o : Nat) : (W.alloc (.cells vs t)).cell? ⟨b, o, none⟩ = vs[o]? := by
  subst hb; simp
theorem froz_newO (W : World) (vs : Array Value) (t : TypeId) (b : Nat) (hb : W.heap.size = b) (o : Nat) : (W.alloc (.cells vs t)).frozen? ⟨b, o, none⟩ = false := by
  subst hb; simp
theorem cell_mid (w : World) (A C : Obj) (x y z : Value) (t : TypeId) (o : Nat) : (((w.alloc A).alloc (.cells #[x, y, z] t)).alloc C).cell? ⟨w.heap.size + 1, o, none⟩ = #[x, y, z][o]? :=
  (World.cell?_of_block (heap_alloc_old _ _ (show w.heap.size + 1 < ((w.alloc A).alloc (.cells #[x, y, z] t)).heap.size by simp))).trans (cell_newO _ _ _ _ (by simp) o)
theorem froz_mid (w : World) (A C : Obj) (x y z : Value) (t : TypeId) (o : Nat) : (((w.alloc A).alloc (.cells #[x, y, z] t)).alloc C).frozen? ⟨w.heap.size + 1, o, none⟩ = false :=
  (World.frozen?_of_block (heap_alloc_old _ _ (show w.heap.size + 1 < ((w.alloc A).alloc (.cells #[x, y, z] t)).heap.size by simp))).trans (froz_newO _ _ _ _ (by simp) o)
set_option maxHeartbeats 1000000 in
theorem rmeasure_at (W : World) (f : Fm) (v : Value) (w : World) (hv : FmV W f v) (hW : Below W.heap.size W w) :
    Calls Tryd.prog 15 #[v] w fun e w' => e = .returned (.agg #[.int .i64 (meterF nmB f 1 ⟨0, 0, 0⟩).n, .int .i64 (meterF nmB f 1 ⟨0, 0, 0⟩).d, .int .i64 (chk nmB f)]) ∧ Below w.heap.size w w' := by
  obtain ⟨s, hs⟩ : ∃ s, meterF nmB f 1 ⟨0, 0, 0⟩ = s := ⟨_, rfl⟩
  have FH : Hid (∀ b w, W.heap.size ≤ b → Below W.heap.size W w → MtIs w b ⟨0, 0, 0⟩ → Calls Tryd.prog 28 #[.pointer (some ⟨b, 0, none⟩), v, .int .i64 1] w fun e w' => e = .returned (.tuple #[]) ∧ MtIs w' b s ∧ But b w w') := fun b w h1 h2 h3 => by
    have := rformula_at W b h1 f v 1 ⟨0, 0, 0⟩ w hv h2 h3 ⟨by decide, by decide, fun _ => by decide⟩ rfl (by decide)
    rwa [hs] at this
  unfold chk
  rw [hs]
  have hWs := hW.size
  obtain ⟨c0, c1, c2, c3, c4, rfl, _⟩ := hv
  clear hs
  go_enter Tryd.func15, Tryd.ntmps15
  go_wp2_with (fail)
  refine (FH.out (w.heap.size + 2) _ (by omega) (hW.trans ((bta (bta (bta0 _ _) _) _).mono hWs)) ⟨(0, 0), heap3_new _ _ _ _⟩).mono ?_
  rintro e w3 ⟨rfl, hM3, hU3⟩
  obtain ⟨m0, m1, m2, n0, n1, n2⟩ := mt_cells hM3
  have r0 := (hU3.cell (g := w.heap.size + 1) (o := 0) (by simp) (by omega)).trans (cell_mid _ _ _ _ _ _ _ 0)
  have r1 := (hU3.cell (g := w.heap.size + 1) (o := 1) (by simp) (by omega)).trans (cell_mid _ _ _ _ _ _ _ 1)
  have r2 := (hU3.cell (g := w.heap.size + 1) (o := 2) (by simp) (by omega)).trans (cell_mid _ _ _ _ _ _ _ 2)
  have z : ∀ o, w3.frozen? ⟨w.heap.size + 1, o, none⟩ = false := fun o => (World.frozen?_of_block (hU3.block (w.heap.size + 1) (by simp) (by omega))).trans (froz_mid _ _ _ _ _ _ _ o)
  have hB : Below w.heap.size w w3 := (bta (bta (bta0 w _) _) _).trans (hU3.below (by omega) (by simp; omega))
  clear FH hU3
  go_wp2
  refine bodyPost_ret (v := .agg #[.int .i64 s.n, .int .i64 s.d, .int .i64 s.e]) (by simp [results, Tryd.results15, go_sem, r0, r1, r2]) rfl ⟨rfl, ?_⟩
  exact ((hB.setCell (by simp) _).setCell (by simp) _).setCell (by simp) _
set_option maxRecDepth 100000 in
theorem rcheck_at (W : World) (f : Fm) (v : Value) (w : World) (hv : FmV W f v) (hW : Below W.heap.size W w) :
    Calls Tryd.prog 6 #[v] w fun e w' => e = .returned (.int .i64 (chk nmB f)) ∧ Below w.heap.size w w' := by
  have ME : Hid (∀ w, Below W.heap.size W w → Calls Tryd.prog 15 #[v] w fun e w' => e = .returned (.agg #[.int .i64 (meterF nmB f 1 ⟨0, 0, 0⟩).n, .int .i64 (meterF nmB f 1 ⟨0, 0, 0⟩).d, .int .i64 (chk nmB f)]) ∧ Below w.heap.size w w') := fun w h => rmeasure_at W f v w hv h
  have hWs := hW.size
  obtain ⟨c0, c1, c2, c3, c4, rfl, _⟩ := hv
  generalize meterF nmB f 1 ⟨0, 0, 0⟩ = s at *
  generalize chk nmB f = c at *
  have hWa := hW.trans ((bta0 w (.cells #[c0, c1, c2, c3, c4] 26)).mono hWs)
  go_enter Tryd.func6, Tryd.ntmps6
  go_wp2_with (fail)
  refine (ME.out _ hWa).mono ?_
  rintro e w3 ⟨rfl, hB3⟩
  clear ME
  have hfl : ∀ w (x y z : Value), (Instr.field 47 (.agg #[x, y, z]) 2).run Tryd.prog w = .ok z w := fun w x y z => by kernel_rfl
  go_wp2
  go_ret
  exact ⟨rfl, ba2 hB3⟩
end Go.Proofs.YtncgmnijgdfenaaDoor.Gl
