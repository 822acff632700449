/- The document's wellTerm. -/
import Derived.Test.YtiapkblebbcfbaaTrB
namespace Go.Proofs.Ytiapkblebbcfbaa.Gl
open Go.RowKit
set_option linter.unusedVariables false

theorem bta0 (w : World) (o : Obj) : Below w.heap.size w (w.alloc o) := (Below.refl _ _).alloc (Nat.le_refl _) o
end Go.Proofs.Ytiapkblebbcfbaa.Gl
/- The document's wellMade. -/
namespace Go.Proofs.Ytiapkblebbcfbaa.Gl
open Go.RowKit
set_option linter.unusedVariables false

theorem seven_cases {P : Nat → Prop} (k : Nat) (hk : k < 9) (h7 : k ≠ 7) (h8 : k ≠ 8) (h0 : P 0) (h1 : P 1) (h2 : P 2) (h3 : P 3) (h4 : P 4) (h5 : P 5) (h6 : P 6) : P k := by
  rcases (show k = 0 ∨ k = 1 ∨ k = 2 ∨ k = 3 ∨ k = 4 ∨ k = 5 ∨ k = 6 by omega) with rfl | rfl | rfl | rfl | rfl | rfl | rfl <;> assumption
abbrev paL : List Nat := [0, 0, 1, 2, 2, 2, 2, 1, 1, 0, 0, 0, 0, 0, 0, 0]
theorem parts_cell (W : World) (k A : Nat) (h : paL[k]? = some A) : (W.alloc (.cells #[.int .i64 0, .int .i64 0, .int .i64 1, .int .i64 2, .int .i64 2, .int .i64 2, .int .i64 2, .int .i64 1, .int .i64 1, .int .i64 0, .int .i64 0, .int .i64 0, .int .i64 0, .int .i64 0, .int .i64 0, .int .i64 0] 3)).cell? ⟨W.heap.size, k, none⟩ = some (.int .i64 A) := by
  have hk : k < 16 := (List.getElem?_eq_some_iff.1 h).1
  match k, hk, h with
  | 0, _, h => cases h; simp
  | 1, _, h => cases h; simp
  | 2, _, h => cases h; simp
  | 3, _, h => cases h; simp
  | 4, _, h => cases h; simp
  | 5, _, h => cases h; simp
  | 6, _, h => cases h; simp
  | 7, _, h => cases h; simp
  | 8, _, h => cases h; simp
  | 9, _, h => cases h; simp
  | 10, _, h => cases h; simp
  | 11, _, h => cases h; simp
  | 12, _, h => cases h; simp
  | 13, _, h => cases h; simp
  | 14, _, h => cases h; simp
  | 15, _, h => cases h; simp
  | n + 16, hk, _ => omega
theorem pa_low (k : Nat) (h9 : k < 9) (h7 : k ≠ 7) (h8 : k ≠ 8) : ∃ A, paL[k]? = some A ∧ A ≤ 2 ∧ A = if (k : Int) = 2 then 1 else if 3 ≤ (k : Int) ∧ (k : Int) ≤ 6 then 2 else 0 :=
  seven_cases (P := fun k => ∃ A, paL[k]? = some A ∧ A ≤ 2 ∧ A = if (k : Int) = 2 then 1 else if 3 ≤ (k : Int) ∧ (k : Int) ≤ 6 then 2 else 0) k h9 h7 h8 ⟨_, rfl, by decide, by decide⟩ ⟨_, rfl, by decide, by decide⟩ ⟨_, rfl, by decide, by decide⟩ ⟨_, rfl, by decide, by decide⟩ ⟨_, rfl, by decide, by decide⟩ ⟨_, rfl, by decide, by decide⟩ ⟨_, rfl, by decide, by decide⟩
theorem pa_high (k : Nat) (hk : k ≤ 14) (h9 : 9 ≤ k) : ∃ A, paL[k]? = some A ∧ A ≤ 2 ∧ A = 0 := by
  rcases (show k = 9 ∨ k = 10 ∨ k = 11 ∨ k = 12 ∨ k = 13 ∨ k = 14 by omega) with rfl | rfl | rfl | rfl | rfl | rfl <;> exact ⟨0, rfl, by decide, rfl⟩
end Go.Proofs.Ytiapkblebbcfbaa.Gl
/- The document's meter. -/
namespace Go.Proofs.Ytiapkblebbcfbaa.Gl
open Go.RowKit
set_option linter.unusedVariables false

/-- all but block b is kept -/
structure But (b : Nat) (w w' : World) : Prop where
  os : w'.os = w.os
  tape : w'.tape = w.tape
  output : w'.output = w.output
  size : w.heap.size ≤ w'.heap.size
  block : ∀ k, k < w.heap.size → k ≠ b → w'.heap[k]? = w.heap[k]?
theorem But.refl (b : Nat) (w : World) : But b w w := ⟨rfl, rfl, rfl, Nat.le_refl _, fun _ _ _ => rfl⟩
theorem But.trans {b : Nat} {w w1 w2 : World} (h : But b w w1) (k : But b w1 w2) : But b w w2 :=
  ⟨k.os.trans h.os, k.tape.trans h.tape, k.output.trans h.output, Nat.le_trans h.size k.size, fun i hi hn => (k.block i (Nat.lt_of_lt_of_le hi h.size) hn).trans (h.block i hi hn)⟩
theorem But.of {b : Nat} {w w' : World} (h : Below w.heap.size w w') : But b w w' := ⟨h.os, h.tape, h.output, h.size, fun i hi _ => h.block i hi⟩
theorem But.below {b B : Nat} {w w' : World} (h : But b w w') (hb : B ≤ b) (hs : B ≤ w.heap.size) : Below B w w' :=
  ⟨h.os, h.tape, h.output, h.size, fun i hi => h.block i (by omega) (by omega)⟩
theorem But.set {b : Nat} {w w' : World} (h : But b w w') (o : Nat) (v : Value) : But b w (w'.setCell ⟨b, o, none⟩ v) :=
  h.trans ⟨rfl, rfl, rfl, by simp [World.setCell], fun k hk hn => Below.heap_setCell _ _ _ _ hn⟩
theorem But.s3 (b : Nat) (w : World) (x y z : Value) : But b w (((w.setCell ⟨b, 0, none⟩ x).setCell ⟨b, 1, none⟩ y).setCell ⟨b, 2, none⟩ z) := (((But.refl b w).set 0 x).set 1 y).set 2 z
theorem But.s2 (b : Nat) (w : World) (x y : Value) : But b w ((w.setCell ⟨b, 0, none⟩ x).setCell ⟨b, 1, none⟩ y) := ((But.refl b w).set 0 x).set 1 y
end Go.Proofs.Ytiapkblebbcfbaa.Gl
/- The document's term: a term's nodes. -/
namespace Go.Proofs.Ytiapkblebbcfbaa.Gl
open Go.RowKit
set_option linter.unusedVariables false

structure Inv (s : St) : Prop where
  n : s.n ≤ 501
  d : s.d ≤ 41
  m : s.e = 0 → s.n ≤ 500
theorem node_inv {s : St} {dp : Nat} {g : Bool} (h : Inv s) (h0 : s.e = 0) (hd : dp ≤ 41) : Inv (s.node dp g) ∧ ((s.node dp g).e = 0 → dp ≤ 40) := by
  have hn := h.m h0
  have hdd := h.d
  unfold St.node
  refine ⟨⟨(show s.n + 1 ≤ 501 by omega), (show max s.d dp ≤ 41 by omega), fun he => ?_⟩, fun he => ?_⟩
  · show s.n + 1 ≤ 500
    dsimp only at he
    split at he
    · cases he
    · omega
  · dsimp only at he
    split at he
    · cases he
    · split at he
      · cases he
      · omega
theorem meterTL_inv {nm : ByteArray → Bool} {l : List Tm} (hl : ∀ t ∈ l, ∀ dp s, Inv s → s.e = 0 → dp ≤ 41 → Inv (meterT nm t dp s)) (dp : Nat) : ∀ s, Inv s → (s.e = 0 → dp ≤ 41) → Inv (meterTL nm l dp s) := by
  induction l with
  | nil => intro s h _; rw [meterTL]; exact h
  | cons t r ih =>
    intro s h hd
    rw [meterTL]
    split
    · rename_i h0
      exact ih (fun u hu => hl u (List.mem_cons_of_mem _ hu)) _ (hl t (List.mem_cons_self ..) dp s h h0 (hd h0)) (fun _ => hd h0)
    · exact h
theorem meterT_inv (nm : ByteArray → Bool) : ∀ t dp s, Inv s → s.e = 0 → dp ≤ 41 → Inv (meterT nm t dp s) := by
  refine Tm.ind (fun o n x a ih dp s h h0 hd => ?_)
  rw [meterT]
  obtain ⟨h1, h2⟩ := node_inv (g := wellT nm (.mk o n x a)) h h0 hd
  exact meterTL_inv ih (dp + 1) _ h1 (fun he => by have := h2 he; omega)
theorem meterFL_inv {nm : ByteArray → Bool} {l : List Fm} (hl : ∀ t ∈ l, ∀ dp s, Inv s → s.e = 0 → dp ≤ 41 → Inv (meterF nm t dp s)) (dp : Nat) : ∀ s, Inv s → (s.e = 0 → dp ≤ 41) → Inv (meterFL nm l dp s) := by
  induction l with
  | nil => intro s h _; rw [meterFL]; exact h
  | cons t r ih =>
    intro s h hd
    rw [meterFL]
    split
    · rename_i h0
      exact ih (fun u hu => hl u (List.mem_cons_of_mem _ hu)) _ (hl t (List.mem_cons_self ..) dp s h h0 (hd h0)) (fun _ => hd h0)
    · exact h
theorem meterF_inv (nm : ByteArray → Bool) : ∀ f dp s, Inv s → s.e = 0 → dp ≤ 41 → Inv (meterF nm f dp s) := by
  refine Fm.ind (fun o x m t a ih dp s h h0 hd => ?_)
  rw [meterF]
  obtain ⟨h1, h2⟩ := node_inv (g := wellF nm (.mk o x m t a)) h h0 hd
  have h3 := meterTL_inv (nm := nm) (l := t) (fun u _ => meterT_inv nm u) (dp + 1) _ h1 (fun he => by have := h2 he; omega)
  refine meterFL_inv ih (dp + 1) _ h3 (fun he => ?_)
  have : (s.node dp (wellF nm (.mk o x m t a))).e = 0 := Decidable.byContradiction (fun hc => by rw [meterTL_err _ _ _ _ hc] at he; exact hc he)
  have := h2 this
  omega
theorem But.cell {b : Nat} {w w' : World} (h : But b w w') {g o : Nat} (hg : g < w.heap.size) (hn : g ≠ b) : w'.cell? ⟨g, o, none⟩ = w.cell? ⟨g, o, none⟩ := World.cell?_of_block (w := w) (h.block g hg hn)
end Go.Proofs.Ytiapkblebbcfbaa.Gl
/- The document's formula, Measure, Check. -/
namespace Go.Proofs.Ytiapkblebbcfbaa.Gl
open Go.RowKit
set_option linter.unusedVariables false

end Go.Proofs.Ytiapkblebbcfbaa.Gl
/- The document's Measure, Check; sameTerm. -/
namespace Go.Proofs.Ytiapkblebbcfbaa.Gl
open Go.RowKit
set_option linter.unusedVariables false

theorem heap3_new (w : World) (A B C : Obj) : (((w.alloc A).alloc B).alloc C).heap[w.heap.size + 2]? = some C := by
  have := heap_alloc_new ((w.alloc A).alloc B) C
  rwa [World.size_alloc, World.size_alloc] at this
theorem cell_newO (W : World) (vs : Array Value) (t : TypeId) (b : Nat) (hb : W.heap.size = b) (o : Nat) : (W.alloc (.cells vs t)).cell? ⟨b, o, none⟩ = vs[o]? := by
  subst hb; simp
theorem froz_newO (W : World) (vs : Array Value) (t : TypeId) (b : Nat) (hb : W.heap.size = b) (o : Nat) : (W.alloc (.cells vs t)).frozen? ⟨b, o, none⟩ = false := by
  subst hb; simp
theorem cell_mid (w : World) (A C : Obj) (x y z : Value) (t : TypeId) (o : Nat) : (((w.alloc A).alloc (.cells #[x, y, z] t)).alloc C).cell? ⟨w.heap.size + 1, o, none⟩ = #[x, y, z][o]? :=
  (World.cell?_of_block (heap_alloc_old _ _ (show w.heap.size + 1 < ((w.alloc A).alloc (.cells #[x, y, z] t)).heap.size by simp))).trans (cell_newO _ _ _ _ (by simp) o)
theorem froz_mid (w : World) (A C : Obj) (x y z : Value) (t : TypeId) (o : Nat) : (((w.alloc A).alloc (.cells #[x, y, z] t)).alloc C).frozen? ⟨w.heap.size + 1, o, none⟩ = false :=
  (World.frozen?_of_block (heap_alloc_old _ _ (show w.heap.size + 1 < ((w.alloc A).alloc (.cells #[x, y, z] t)).heap.size by simp))).trans (froz_newO _ _ _ _ (by simp) o)
end Go.Proofs.Ytiapkblebbcfbaa.Gl
