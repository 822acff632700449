/- The document's wellTerm. -/
import Derived.Test.YtabfhdmcljdjhaaDoorPcA
import Derived.Test.YtabfhdmcljdjhaaDoorLxG
import Derived.Laws.AppendOwnNone
import Derived.WalkSmall
import Derived.Deep.AppendLies
import Derived.Test.YtabfhdmcljdjhaaDoorNdH
import Derived.Sort.Walk0
import Derived.Lib.SlicesCompact
import Derived.Sort.EncStr
import Derived.Sort.OwnSorted
import Derived.Laws.CopyOwn
import Derived.Test.YtabfhdmcljdjhaaDoorLyS
import Derived.Maps.AppendAt
namespace Go.Proofs.YtabfhdmcljdjhaaDoor.Gl
open Go.RowKit
set_option linter.unusedVariables false

theorem bta0 (w : World) (o : Obj) : Below w.heap.size w (w.alloc o) := (Below.refl _ _).alloc (Nat.le_refl _) o
end Go.Proofs.YtabfhdmcljdjhaaDoor.Gl
/- The document's wellMade. -/
namespace Go.Proofs.YtabfhdmcljdjhaaDoor.Gl
open Go.RowKit
set_option linter.unusedVariables false

theorem seven_cases {P : Nat → Prop} (k : Nat) (hk : k < 9) (h7 : k ≠ 7) (h8 : k ≠ 8) (h0 : P 0) (h1 : P 1) (h2 : P 2) (h3 : P 3) (h4 : P 4) (h5 : P 5) (h6 : P 6) : P k := by
  rcases (show k = 0 ∨ k = 1 ∨ k = 2 ∨ k = 3 ∨ k = 4 ∨ k = 5 ∨ k = 6 by omega) with rfl | rfl | rfl | rfl | rfl | rfl | rfl <;> assumption
abbrev paL : List Nat := [0, 0, 1, 2, 2, 2, 2, 1, 1, 0, 0, 0, 0, 0, 0, 0]
theorem parts_cell (W : World) (k A : Nat) (h : paL[k]? = some A) : (W.alloc (.cells #[.int .i64 0, .int .i64 0, .int .i64 1, .int .i64 2, .int .i64 2, .int .i64 2, .int .i64 2, .int .i64 1, .int .i64 1, .int .i64 0, .int .i64 0, .int .i64 0, .int .i64 0, .int .i64 0, .int .i64 0, .int .i64 0] 3)).cell? ⟨W.heap.size, k, none⟩ = some (.int .i64 A) := by
  have hk : k < 16 := (List.getElem?_eq_some_iff.1 h).1
  match k, hk, h with
  | 0, _, h => cases h; simp
  | 1, _, h => cases h; simp
  | 2, _, h => cases h; simp
  | 3, _, h => cases h; simp
  | 4, _, h => cases h; simp
  | 5, _, h => cases h; simp
  | 6, _, h => cases h; simp
  | 7, _, h => cases h; simp
  | 8, _, h => cases h; simp
  | 9, _, h => cases h; simp
  | 10, _, h => cases h; simp
  | 11, _, h => cases h; simp
  | 12, _, h => cases h; simp
  | 13, _, h => cases h; simp
  | 14, _, h => cases h; simp
  | 15, _, h => cases h; simp
  | n + 16, hk, _ => omega
theorem pa_low (k : Nat) (h9 : k < 9) (h7 : k ≠ 7) (h8 : k ≠ 8) : ∃ A, paL[k]? = some A ∧ A ≤ 2 ∧ A = if (k : Int) = 2 then 1 else if 3 ≤ (k : Int) ∧ (k : Int) ≤ 6 then 2 else 0 :=
  seven_cases (P := fun k => ∃ A, paL[k]? = some A ∧ A ≤ 2 ∧ A = if (k : Int) = 2 then 1 else if 3 ≤ (k : Int) ∧ (k : Int) ≤ 6 then 2 else 0) k h9 h7 h8 ⟨_, rfl, by decide, by decide⟩ ⟨_, rfl, by decide, by decide⟩ ⟨_, rfl, by decide, by decide⟩ ⟨_, rfl, by decide, by decide⟩ ⟨_, rfl, by decide, by decide⟩ ⟨_, rfl, by decide, by decide⟩ ⟨_, rfl, by decide, by decide⟩
theorem pa_high (k : Nat) (hk : k ≤ 14) (h9 : 9 ≤ k) : ∃ A, paL[k]? = some A ∧ A ≤ 2 ∧ A = 0 := by
  rcases (show k = 9 ∨ k = 10 ∨ k = 11 ∨ k = 12 ∨ k = 13 ∨ k = 14 by omega) with rfl | rfl | rfl | rfl | rfl | rfl <;> exact ⟨0, rfl, by decide, rfl⟩
end Go.Proofs.YtabfhdmcljdjhaaDoor.Gl
/- The document's meter. -/
namespace Go.Proofs.YtabfhdmcljdjhaaDoor.Gl
open Go.RowKit
set_option linter.unusedVariables false

/-- all but block b is kept -/
structure But (b : Nat) (w w' : World) : Prop where
  os : w'.os = w.os
  tape : w'.tape = w.tape
  output : w'.output = w.output
  size : w.heap.size ≤ w'.heap.size
  block : ∀ k, k < w.heap.size → k ≠ b → w'.heap[k]? = w.heap[k]?
theorem But.refl (b : Nat) (w : World) : But b w w := ⟨rfl, rfl, rfl, Nat.le_refl _, fun _ _ _ => rfl⟩
theorem But.trans {b : Nat} {w w1 w2 : World} (h : But b w w1) (k : But b w1 w2) : But b w w2 :=
  ⟨k.os.trans h.os, k.tape.trans h.tape, k.output.trans h.output, Nat.le_trans h.size k.size, fun i hi hn => (k.block i (Nat.lt_of_lt_of_le hi h.size) hn).trans (h.block i hi hn)⟩
theorem But.of {b : Nat} {w w' : World} (h : Below w.heap.size w w') : But b w w' := ⟨h.os, h.tape, h.output, h.size, fun i hi _ => h.block i hi⟩
theorem But.below {b B : Nat} {w w' : World} (h : But b w w') (hb : B ≤ b) (hs : B ≤ w.heap.size) : Below B w w' :=
  ⟨h.os, h.tape, h.output, h.size, fun i hi => h.block i (by omega) (by omega)⟩
theorem But.set {b : Nat} {w w' : World} (h : But b w w') (o : Nat) (v : Value) : But b w (w'.setCell ⟨b, o, none⟩ v) :=
  h.trans ⟨rfl, rfl, rfl, by simp [World.setCell], fun k hk hn => Below.heap_setCell _ _ _ _ hn⟩
theorem But.s3 (b : Nat) (w : World) (x y z : Value) : But b w (((w.setCell ⟨b, 0, none⟩ x).setCell ⟨b, 1, none⟩ y).setCell ⟨b, 2, none⟩ z) := (((But.refl b w).set 0 x).set 1 y).set 2 z
theorem But.s2 (b : Nat) (w : World) (x y : Value) : But b w ((w.setCell ⟨b, 0, none⟩ x).setCell ⟨b, 1, none⟩ y) := ((But.refl b w).set 0 x).set 1 y
end Go.Proofs.YtabfhdmcljdjhaaDoor.Gl
/- The document's term: a term's nodes. -/
namespace Go.Proofs.YtabfhdmcljdjhaaDoor.Gl
open Go.RowKit
set_option linter.unusedVariables false

structure Inv (s : St) : Prop where
  n : s.n ≤ 501
  d : s.d ≤ 41
  m : s.e = 0 → s.n ≤ 500
theorem node_inv {s : St} {dp : Nat} {g : Bool} (h : Inv s) (h0 : s.e = 0) (hd : dp ≤ 41) : Inv (s.node dp g) ∧ ((s.node dp g).e = 0 → dp ≤ 40) := by
  have hn := h.m h0
  have hdd := h.d
  unfold St.node
  refine ⟨⟨(show s.n + 1 ≤ 501 by omega), (show max s.d dp ≤ 41 by omega), fun he => ?_⟩, fun he => ?_⟩
  · show s.n + 1 ≤ 500
    dsimp only at he
    split at he
    · cases he
    · omega
  · dsimp only at he
    split at he
    · cases he
    · split at he
      · cases he
      · omega
theorem meterTL_inv {nm : ByteArray → Bool} {l : List Tm} (hl : ∀ t ∈ l, ∀ dp s, Inv s → s.e = 0 → dp ≤ 41 → Inv (meterT nm t dp s)) (dp : Nat) : ∀ s, Inv s → (s.e = 0 → dp ≤ 41) → Inv (meterTL nm l dp s) := by
  induction l with
  | nil => intro s h _; rw [meterTL]; exact h
  | cons t r ih =>
    intro s h hd
    rw [meterTL]
    split
    · rename_i h0
      exact ih (fun u hu => hl u (List.mem_cons_of_mem _ hu)) _ (hl t (List.mem_cons_self ..) dp s h h0 (hd h0)) (fun _ => hd h0)
    · exact h
theorem meterT_inv (nm : ByteArray → Bool) : ∀ t dp s, Inv s → s.e = 0 → dp ≤ 41 → Inv (meterT nm t dp s) := by
  refine Tm.ind (fun o n x a ih dp s h h0 hd => ?_)
  rw [meterT]
  obtain ⟨h1, h2⟩ := node_inv (g := wellT nm (.mk o n x a)) h h0 hd
  exact meterTL_inv ih (dp + 1) _ h1 (fun he => by have := h2 he; omega)
theorem meterFL_inv {nm : ByteArray → Bool} {l : List Fm} (hl : ∀ t ∈ l, ∀ dp s, Inv s → s.e = 0 → dp ≤ 41 → Inv (meterF nm t dp s)) (dp : Nat) : ∀ s, Inv s → (s.e = 0 → dp ≤ 41) → Inv (meterFL nm l dp s) := by
  induction l with
  | nil => intro s h _; rw [meterFL]; exact h
  | cons t r ih =>
    intro s h hd
    rw [meterFL]
    split
    · rename_i h0
      exact ih (fun u hu => hl u (List.mem_cons_of_mem _ hu)) _ (hl t (List.mem_cons_self ..) dp s h h0 (hd h0)) (fun _ => hd h0)
    · exact h
theorem meterF_inv (nm : ByteArray → Bool) : ∀ f dp s, Inv s → s.e = 0 → dp ≤ 41 → Inv (meterF nm f dp s) := by
  refine Fm.ind (fun o x m t a ih dp s h h0 hd => ?_)
  rw [meterF]
  obtain ⟨h1, h2⟩ := node_inv (g := wellF nm (.mk o x m t a)) h h0 hd
  have h3 := meterTL_inv (nm := nm) (l := t) (fun u _ => meterT_inv nm u) (dp + 1) _ h1 (fun he => by have := h2 he; omega)
  refine meterFL_inv ih (dp + 1) _ h3 (fun he => ?_)
  have : (s.node dp (wellF nm (.mk o x m t a))).e = 0 := Decidable.byContradiction (fun hc => by rw [meterTL_err _ _ _ _ hc] at he; exact hc he)
  have := h2 this
  omega
theorem But.cell {b : Nat} {w w' : World} (h : But b w w') {g o : Nat} (hg : g < w.heap.size) (hn : g ≠ b) : w'.cell? ⟨g, o, none⟩ = w.cell? ⟨g, o, none⟩ := World.cell?_of_block (w := w) (h.block g hg hn)
end Go.Proofs.YtabfhdmcljdjhaaDoor.Gl
/- The document's formula, Measure, Check. -/
namespace Go.Proofs.YtabfhdmcljdjhaaDoor.Gl
open Go.RowKit
set_option linter.unusedVariables false

end Go.Proofs.YtabfhdmcljdjhaaDoor.Gl
/- The document's Measure, Check; sameTerm. -/
namespace Go.Proofs.YtabfhdmcljdjhaaDoor.Gl
open Go.RowKit
set_option linter.unusedVariables false

theorem heap3_new (w : World) (A B C : Obj) : (((w.alloc A).alloc B).alloc C).heap[w.heap.size + 2]? = some C := by
  have := heap_alloc_new ((w.alloc A).alloc B) C
  rwa [World.size_alloc, World.size_alloc] at this
theorem cell_newO (W : World) (vs : Array Value) (t : TypeId) (b : Nat) (hb : W.heap.size = b) (o : Nat) : (W.alloc (.cells vs t)).cell? ⟨b, o, none⟩ = vs[o]? := by
  subst hb; simp
theorem froz_newO (W : World) (vs : Array Value) (t : TypeId) (b : Nat) (hb : W.heap.size = b) (o : Nat) : (W.alloc (.cells vs t)).frozen? ⟨b, o, none⟩ = false := by
  subst hb; simp
theorem cell_mid (w : World) (A C : Obj) (x y z : Value) (t : TypeId) (o : Nat) : (((w.alloc A).alloc (.cells #[x, y, z] t)).alloc C).cell? ⟨w.heap.size + 1, o, none⟩ = #[x, y, z][o]? :=
  (World.cell?_of_block (heap_alloc_old _ _ (show w.heap.size + 1 < ((w.alloc A).alloc (.cells #[x, y, z] t)).heap.size by simp))).trans (cell_newO _ _ _ _ (by simp) o)
theorem froz_mid (w : World) (A C : Obj) (x y z : Value) (t : TypeId) (o : Nat) : (((w.alloc A).alloc (.cells #[x, y, z] t)).alloc C).frozen? ⟨w.heap.size + 1, o, none⟩ = false :=
  (World.frozen?_of_block (heap_alloc_old _ _ (show w.heap.size + 1 < ((w.alloc A).alloc (.cells #[x, y, z] t)).heap.size by simp))).trans (froz_newO _ _ _ _ (by simp) o)
end Go.Proofs.YtabfhdmcljdjhaaDoor.Gl
/- The document's sameTerm. -/
namespace Go.Proofs.YtabfhdmcljdjhaaDoor.Gl
open Go.RowKit
set_option linter.unusedVariables false

noncomputable def eqB {α : Type} (x y : α) : Bool := @decide (x = y) (Classical.propDecidable _)
theorem eqB_iff {α : Type} (x y : α) : eqB x y = true ↔ x = y := by
  unfold eqB
  exact @decide_eq_true_iff _ (Classical.propDecidable _)
theorem eqB_no {α : Type} {x y : α} (h : ¬ x = y) : eqB x y = false := by
  cases hb : eqB x y with
  | false => rfl
  | true => exact absurd ((eqB_iff x y).1 hb) h
theorem eqB_yes {α : Type} {x y : α} (h : x = y) : eqB x y = true := (eqB_iff x y).2 h
theorem list_ext {α : Type} {a b : List α} (hl : a.length = b.length) (h : ∀ j (ha : j < a.length) (hb : j < b.length), a[j] = b[j]) : a = b := List.ext_getElem hl h
theorem two_boxes (w : World) (A B : Array Value) (t t' : TypeId) : (∀ o, ((w.alloc (.cells A t)).alloc (.cells B t')).cell? ⟨w.heap.size, o, none⟩ = A[o]?) ∧ (∀ o, ((w.alloc (.cells A t)).alloc (.cells B t')).cell? ⟨w.heap.size + 1, o, none⟩ = B[o]?) :=
  ⟨fun o => (World.cell?_of_block (heap_alloc_old _ _ (show w.heap.size < (w.alloc (.cells A t)).heap.size by simp))).trans (cell_newO _ _ _ _ rfl o), fun o => cell_newO _ _ _ _ (by simp) o⟩
theorem ten_kept {w w' : World} {B1 B2 g g' : Nat} {o1 o2 o3 o4 o5 o6 o7 o8 o9 oA : Nat} {x1 x2 x3 x4 x5 x6 x7 x8 x9 xA : Value} (hb : Below w.heap.size w w') (h1 : B1 < w.heap.size) (h2 : B2 < w.heap.size) (hg : g < w.heap.size) (hg' : g' < w.heap.size)
    (h : w.cell? ⟨B1, o1, none⟩ = some x1 ∧ w.cell? ⟨B2, o2, none⟩ = some x2 ∧ w.cell? ⟨g, o3, none⟩ = some x3 ∧ w.cell? ⟨g, o4, none⟩ = some x4 ∧ w.cell? ⟨g, o5, none⟩ = some x5 ∧ w.cell? ⟨g, o6, none⟩ = some x6 ∧ w.cell? ⟨g', o7, none⟩ = some x7 ∧ w.cell? ⟨g', o8, none⟩ = some x8 ∧ w.cell? ⟨g', o9, none⟩ = some x9 ∧ w.cell? ⟨g', oA, none⟩ = some xA) :
    w'.cell? ⟨B1, o1, none⟩ = some x1 ∧ w'.cell? ⟨B2, o2, none⟩ = some x2 ∧ w'.cell? ⟨g, o3, none⟩ = some x3 ∧ w'.cell? ⟨g, o4, none⟩ = some x4 ∧ w'.cell? ⟨g, o5, none⟩ = some x5 ∧ w'.cell? ⟨g, o6, none⟩ = some x6 ∧ w'.cell? ⟨g', o7, none⟩ = some x7 ∧ w'.cell? ⟨g', o8, none⟩ = some x8 ∧ w'.cell? ⟨g', o9, none⟩ = some x9 ∧ w'.cell? ⟨g', oA, none⟩ = some xA := by
  obtain ⟨hc, _⟩ := bcell hb
  obtain ⟨a1, a2, a3, a4, a5, a6, a7, a8, a9, aA⟩ := h
  exact ⟨(hc _ _ h1).trans a1, (hc _ _ h2).trans a2, (hc _ _ hg).trans a3, (hc _ _ hg).trans a4, (hc _ _ hg).trans a5, (hc _ _ hg).trans a6, (hc _ _ hg').trans a7, (hc _ _ hg').trans a8, (hc _ _ hg').trans a9, (hc _ _ hg').trans aA⟩
end Go.Proofs.YtabfhdmcljdjhaaDoor.Gl
/- The document's Same. -/
namespace Go.Proofs.YtabfhdmcljdjhaaDoor.Gl
open Go.RowKit
set_option linter.unusedVariables false

theorem twelve_kept {w w' : World} {B1 B2 g g' : Nat} {o1 o2 o3 o4 o5 o6 oE o7 o8 o9 oA oF : Nat} {x1 x2 x3 x4 x5 x6 xE x7 x8 x9 xA xF : Value} (hb : Below w.heap.size w w') (h1 : B1 < w.heap.size) (h2 : B2 < w.heap.size) (hg : g < w.heap.size) (hg' : g' < w.heap.size)
    (h : w.cell? ⟨B1, o1, none⟩ = some x1 ∧ w.cell? ⟨B2, o2, none⟩ = some x2 ∧ w.cell? ⟨g, o3, none⟩ = some x3 ∧ w.cell? ⟨g, o4, none⟩ = some x4 ∧ w.cell? ⟨g, o5, none⟩ = some x5 ∧ w.cell? ⟨g, o6, none⟩ = some x6 ∧ w.cell? ⟨g, oE, none⟩ = some xE ∧ w.cell? ⟨g', o7, none⟩ = some x7 ∧ w.cell? ⟨g', o8, none⟩ = some x8 ∧ w.cell? ⟨g', o9, none⟩ = some x9 ∧ w.cell? ⟨g', oA, none⟩ = some xA ∧ w.cell? ⟨g', oF, none⟩ = some xF) :
    w'.cell? ⟨B1, o1, none⟩ = some x1 ∧ w'.cell? ⟨B2, o2, none⟩ = some x2 ∧ w'.cell? ⟨g, o3, none⟩ = some x3 ∧ w'.cell? ⟨g, o4, none⟩ = some x4 ∧ w'.cell? ⟨g, o5, none⟩ = some x5 ∧ w'.cell? ⟨g, o6, none⟩ = some x6 ∧ w'.cell? ⟨g, oE, none⟩ = some xE ∧ w'.cell? ⟨g', o7, none⟩ = some x7 ∧ w'.cell? ⟨g', o8, none⟩ = some x8 ∧ w'.cell? ⟨g', o9, none⟩ = some x9 ∧ w'.cell? ⟨g', oA, none⟩ = some xA ∧ w'.cell? ⟨g', oF, none⟩ = some xF := by
  obtain ⟨hc, _⟩ := bcell hb
  obtain ⟨a1, a2, a3, a4, a5, a6, aE, a7, a8, a9, aA, aF⟩ := h
  exact ⟨(hc _ _ h1).trans a1, (hc _ _ h2).trans a2, (hc _ _ hg).trans a3, (hc _ _ hg).trans a4, (hc _ _ hg).trans a5, (hc _ _ hg).trans a6, (hc _ _ hg).trans aE, (hc _ _ hg').trans a7, (hc _ _ hg').trans a8, (hc _ _ hg').trans a9, (hc _ _ hg').trans aA, (hc _ _ hg').trans aF⟩
end Go.Proofs.YtabfhdmcljdjhaaDoor.Gl
/- Slices of texts in memory: joined, copied. -/
namespace Go.Proofs.YtabfhdmcljdjhaaDoor.Gl
open Go.RowKit
set_option linter.unusedVariables false

theorem strs_oneCell (T : List ByteArray) : ∀ u ∈ cellsS T, u.oneCell' = true := by
  intro u hu
  obtain ⟨_, _, rfl⟩ := List.mem_map.1 hu
  rfl
theorem cells_argS {W : World} {b off n cap : Nat} {T : List ByteArray} (h : RdS W (some ⟨b, off, none⟩) n cap T) : ∀ j u, (cellsS T)[j]? = some u → W.cell? ((⟨b, off, none⟩ : Addr).add j) = some u := by
  intro j u hj
  rw [List.getElem?_map] at hj
  by_cases hjl : j < T.length
  · rw [List.getElem?_eq_getElem hjl] at hj
    simp only [Option.map_some, Option.some.injEq] at hj
    subst hj
    obtain ⟨b', off', e, h1⟩ := h.cell j (by rw [← h.eqlen]; exact hjl)
    obtain ⟨rfl, rfl⟩ : b = b' ∧ off = off' := by simpa using e
    rw [sgetD_of hjl] at h1
    rw [Go.WideShapes.add_plain]
    exact h1
  · rw [List.getElem?_eq_none (by omega)] at hj
    simp at hj
/-- a slice's address is plain -/
theorem rds_addr {W : World} {ad : Addr} {n cap : Nat} {T : List ByteArray} (h : RdS W (some ad) n cap T) (hn : 0 < n) : ∃ b off, ad = ⟨b, off, none⟩ := by
  obtain ⟨b, off, e, _⟩ := h.cell 0 hn
  exact ⟨b, off, by simpa using e⟩
theorem cells_argA {W : World} {ad : Addr} {n cap : Nat} {T : List ByteArray} (h : RdS W (some ad) n cap T) : ∀ j u, (cellsS T)[j]? = some u → W.cell? (ad.add j) = some u := by
  by_cases hn : 0 < n
  · obtain ⟨b, off, rfl⟩ := rds_addr h hn
    exact cells_argS h
  · have : T = [] := List.length_eq_zero_iff.1 (by rw [h.eqlen]; omega)
    subst this
    intro j u hj
    simp at hj
/-- 'append(v, x...)' onto a row of the call's own -/
theorem wp_joinS {ops : Array Oper} {rest : List Oper} {o : Oper} {a : Act} {Q : Exit → Act → World → Prop} (W0 Wc : World) (B base : Nat) (hgd : o.guard = none) (s x : Operand)
    (ho : o.op = .call { callee := .builtin .append, args := #[s, x], argTypes := #[30, 30] }) (v : Value) (k : Nat) (O : List ByteArray) (hs : a.eval s = v) (ao : Option Addr) (m c : Nat) (D : List ByteArray) (hx : a.eval x = .slice ao m c)
    (hown : Wc.ownsRow base 9 1 v k (cellsS O)) (hR : RdS Wc ao m c D) (hbase : base ≤ Wc.heap.size) (hk : (k + m) * 16 ≤ 140737488355328) (hbel : Below B W0 Wc) (hB : B ≤ base)
    (h : ∀ v' w', w'.ownsRow base 9 1 v' (k + m) (cellsS (O ++ D)) → Below B W0 w' → Wc.grownBy w' v.ownBlock → wpList Tryd.prog ops Q rest (a.put o.dst v') w') : wpList Tryd.prog ops Q (o :: rest) a Wc := by
  obtain ⟨i0, hi, hz0, hz1, hz2⟩ := info_parts Tryd.infoStr
  cases ao with
  | none =>
    have hc0 := hR.isnil rfl
    have hl := hR.lecap
    obtain rfl : c = 0 := hc0
    obtain rfl : m = 0 := by omega
    have hz : D = [] := List.length_eq_zero_iff.1 hR.eqlen
    subst hz
    refine wpList_append_own_none hgd s x 30 ho base 9 i0 1 Tryd.underlying30 hi v k (cellsS O) hs hown hx ?_
    exact h v Wc (by simpa using hown) hbel ⟨rfl, rfl, rfl, Nat.le_refl _, fun _ _ _ => rfl⟩
  | some ad =>
    refine wpList_append_own _ hgd s x 30 ho base 9 i0 (.string emp) 1 16 Tryd.underlying30 hi hz0 hz1 hz2 rfl (by decide) v k (cellsS O) hs hown ad m c (cellsS D) hx (by simp [hR.eqlen]) (cells_argA hR) (strs_oneCell D) (by unfold maxLen; omega) (by omega) hbase ?_
    intro v' w' h2 h3 h4
    refine h v' w' (by simpa [cellsS] using h2) (hbel.grown h3 (by omega) ?_) h3
    intro q hq
    have := hown.lt q hq
    omega
/-- 'append([]string{}, x...)': a new slice of the same texts -/
theorem wp_copyS {ops : Array Oper} {rest : List Oper} {o : Oper} {a : Act} {Q : Exit → Act → World → Prop} (W : World) (hgd : o.guard = none) (s x : Operand)
    (ho : o.op = .call { callee := .builtin .append, args := #[s, x], argTypes := #[30, 30] })
    (hs : a.eval s = .slice (some ⟨W.heap.size, 0, none⟩) 0 0) (ao : Option Addr) (m c : Nat) (D : List ByteArray) (hx : a.eval x = .slice ao m c) (hR : RdS W ao m c D) (hm : m * 16 ≤ 140737488355328)
    (h : ∀ v' w', w'.ownsRow W.heap.size 9 1 v' m (cellsS D) → Below W.heap.size W w' → wpList Tryd.prog ops Q rest (a.put o.dst v') w') : wpList Tryd.prog ops Q (o :: rest) a (W.alloc (.cells #[] 9)) := by
  have hown := World.ownsRow_made (base := W.heap.size) (e := 9) (size := 1) W #[] 0 (Nat.le_refl _) (Nat.zero_le _) (by simp)
  refine wp_joinS W (W.alloc (.cells #[] 9)) W.heap.size W.heap.size hgd s x ho _ 0 [] hs ao m c D hx hown (hR.below (B := W.heap.size) (Nat.le_refl _) ((Below.refl _ _).alloc (Nat.le_refl _) _)) (by rw [World.size_alloc]; omega) (by omega) ((Below.refl _ _).alloc (Nat.le_refl _) _) (Nat.le_refl _) ?_
  intro v' w' h1 h2 _
  rw [Nat.zero_add, List.nil_append] at h1
  exact h v' w' h1 h2
end Go.Proofs.YtabfhdmcljdjhaaDoor.Gl
/- The document's Names. -/
namespace Go.Proofs.YtabfhdmcljdjhaaDoor.Gl
open Go.RowKit
set_option linter.unusedVariables false

mutual
def namesT : Tm → List ByteArray | .mk o n x a => if o = 1 then [x] else togL (namesTL a)
def namesTL : List Tm → List ByteArray | [] => [] | t :: r => namesT t ++ namesTL r
end
theorem tog_le (l : List ByteArray) : (togL l).length ≤ l.length := by
  have := fold_length l []
  simpa [togL] using this
theorem namesTL_len {l : List Tm} (h : ∀ t ∈ l, (namesT t).length ≤ t.size) : (namesTL l).length ≤ Tm.sizeL l := by
  induction l with
  | nil => rw [namesTL, Tm.sizeL]; exact Nat.le_refl _
  | cons t r ih =>
    rw [namesTL, Tm.sizeL, List.length_append]
    have := h t (List.mem_cons_self ..)
    have := ih (fun u hu => h u (List.mem_cons_of_mem _ hu))
    omega
theorem namesT_len : ∀ t, (namesT t).length ≤ Tm.size t := by
  refine Tm.ind (fun o n x a ih => ?_)
  rw [namesT, Tm.size]
  split
  · simp
  · have := tog_le (namesTL a)
    have := namesTL_len ih
    omega
theorem namesTL_append (l r : List Tm) : namesTL (l ++ r) = namesTL l ++ namesTL r := by
  induction l with
  | nil => rw [List.nil_append, namesTL, List.nil_append]
  | cons t q ih => rw [List.cons_append, namesTL, namesTL, ih, List.append_assoc]
theorem namesTL_take (a : List Tm) (k : Nat) (h : k < a.length) : namesTL (a.take (k + 1)) = namesTL (a.take k) ++ namesT a[k] := by
  rw [List.take_succ_eq_append_getElem h, namesTL_append, namesTL, namesTL, List.append_nil]
theorem Tm.sizeL_take (a : List Tm) (k : Nat) : Tm.sizeL (a.take k) ≤ Tm.sizeL a := by
  induction a generalizing k with
  | nil => simp
  | cons t r ih =>
    cases k with
    | zero => rw [List.take_zero, Tm.sizeL]; omega
    | succ k => rw [List.take_succ_cons, Tm.sizeL, Tm.sizeL]; have := ih k; omega
theorem own_one (W : World) (base b : Nat) (e : TypeId) (v : Value) (hb : W.heap.size = b) (hB : base ≤ b) : (W.alloc (.cells #[v] e)).ownsRow base e 1 (.slice (some ⟨b, 0, none⟩) 1 1) 1 [v] := by
  subst hb
  exact ⟨rfl, .inr ⟨W.heap.size, 1, #[v], rfl, hB, heap_alloc_new _ _, Nat.le_refl _, by decide, rfl, rfl⟩⟩
end Go.Proofs.YtabfhdmcljdjhaaDoor.Gl
/- The document's Free. -/
namespace Go.Proofs.YtabfhdmcljdjhaaDoor.Gl
open Go.RowKit
set_option linter.unusedVariables false

/-- does a quantifier of the name x leave s free? -/
def keepB (q : Bool) (x s : ByteArray) : Bool := !q || !(s.toList == x.toList)
mutual
def freeF : Fm → List ByteArray | .mk o x m t a => togL (namesTL t ++ freeFL (quant o) x a)
def freeFL (q : Bool) (x : ByteArray) : List Fm → List ByteArray | [] => [] | f :: r => (freeF f).filter (keepB q x) ++ freeFL q x r
end
theorem freeFL_len {q : Bool} {x : ByteArray} {l : List Fm} (h : ∀ f ∈ l, (freeF f).length ≤ f.size) : (freeFL q x l).length ≤ Fm.sizeL l := by
  induction l with
  | nil => rw [freeFL, Fm.sizeL]; exact Nat.le_refl _
  | cons t r ih =>
    rw [freeFL, Fm.sizeL, List.length_append]
    have := h t (List.mem_cons_self ..)
    have := ih (fun u hu => h u (List.mem_cons_of_mem _ hu))
    have := List.length_filter_le (keepB q x) (freeF t)
    omega
theorem freeF_len : ∀ f, (freeF f).length ≤ Fm.size f := by
  refine Fm.ind (fun o x m t a ih => ?_)
  rw [freeF, Fm.size]
  have h1 := tog_le (namesTL t ++ freeFL (quant o) x a)
  have h2 := namesTL_len (l := t) (fun t _ => namesT_len t)
  have h3 := freeFL_len (q := quant o) (x := x) ih
  rw [List.length_append] at h1
  omega
theorem freeFL_append (q : Bool) (x : ByteArray) (l r : List Fm) : freeFL q x (l ++ r) = freeFL q x l ++ freeFL q x r := by
  induction l with
  | nil => rw [List.nil_append, freeFL, List.nil_append]
  | cons t z ih => rw [List.cons_append, freeFL, freeFL, ih, List.append_assoc]
theorem freeFL_take (q : Bool) (x : ByteArray) (a : List Fm) (k : Nat) (h : k < a.length) : freeFL q x (a.take (k + 1)) = freeFL q x (a.take k) ++ (freeF a[k]).filter (keepB q x) := by
  rw [List.take_succ_eq_append_getElem h, freeFL_append, freeFL, freeFL, List.append_nil]
theorem Fm.sizeL_take (a : List Fm) (k : Nat) : Fm.sizeL (a.take k) ≤ Fm.sizeL a := by
  induction a generalizing k with
  | nil => simp
  | cons t r ih =>
    cases k with
    | zero => rw [List.take_zero, Fm.sizeL]; omega
    | succ k => rw [List.take_succ_cons, Fm.sizeL, Fm.sizeL]; have := ih k; omega
theorem filter_take (p : ByteArray → Bool) (L : List ByteArray) (k : Nat) (h : k < L.length) : (L.take (k + 1)).filter p = (L.take k).filter p ++ (if p (L.getD k emp) = true then [L.getD k emp] else []) := by
  rw [take_snoc L k h, List.filter_append]
  congr 1
  by_cases hp : p (L.getD k emp) = true
  · rw [if_pos hp, List.filter_cons_of_pos hp, List.filter_nil]
  · rw [if_neg hp, List.filter_cons_of_neg hp, List.filter_nil]
/-- the row that grows is the old one or new; all else of w2 is kept -/
structure Apart (w2 : World) (b0 : Option Nat) (wr : World) (v : Value) : Prop where
  size : w2.heap.size ≤ wr.heap.size
  block : ∀ b, b < w2.heap.size → b0 ≠ some b → wr.heap[b]? = w2.heap[b]?
  own : v.ownBlock = b0 ∨ ∃ g, v.ownBlock = some g ∧ w2.heap.size ≤ g
theorem Apart.refl (w : World) (v : Value) : Apart w v.ownBlock w v := ⟨Nat.le_refl _, fun _ _ _ => rfl, .inl rfl⟩
theorem Apart.alloc {w2 wr : World} {b0 : Option Nat} {v : Value} (h : Apart w2 b0 wr v) (o : Obj) : Apart w2 b0 (wr.alloc o) v :=
  ⟨by have := h.size; simp; omega, fun b hb hn => (heap_alloc_old _ _ (Nat.lt_of_lt_of_le hb h.size)).trans (h.block b hb hn), h.own⟩
theorem Apart.drewn {w2 wr : World} {b0 : Option Nat} {v : Value} (h : Apart w2 b0 wr v) (n : Nat) : Apart w2 b0 (wr.drewN n) v := ⟨h.size, h.block, h.own⟩
theorem Apart.grown {w2 wr w3 : World} {b0 : Option Nat} {v : Value} {g n c : Nat} (h : Apart w2 b0 wr v) (hg : wr.grownBy w3 v.ownBlock) (hat : v.ownBlock = some g ∨ g = wr.heap.size) : Apart w2 b0 w3 (.slice (some ⟨g, 0, none⟩) n c) := by
  refine ⟨Nat.le_trans h.size hg.size, fun b hb hn => ?_, ?_⟩
  · refine (hg.block b (Nat.lt_of_lt_of_le hb h.size) (fun e => ?_)).trans (h.block b hb hn)
    rcases h.own with k | ⟨g', k, hk⟩
    · exact hn (k.symm.trans e.symm)
    · rw [k] at e
      have : b = g' := by simpa using e
      omega
  · rcases hat with k | rfl
    · rcases h.own with k' | ⟨g', k', hk⟩
      · exact .inl (by rw [← k', k]; rfl)
      · exact .inr ⟨g', by rw [← k', k]; rfl, hk⟩
    · exact .inr ⟨_, rfl, h.size⟩
theorem Apart.rds {w2 wr : World} {b0 : Option Nat} {v : Value} {ro : Option Addr} {n c : Nat} {L : List ByteArray} (h : Apart w2 b0 wr v) (hR : RdS w2 ro n c L) (hb : ∀ g of fz, ro = some ⟨g, of, fz⟩ → b0 ≠ some g) : RdS wr ro n c L := by
  refine ⟨hR.eqlen, hR.lecap, hR.lemax, hR.isnil, fun i hi => ?_⟩
  obtain ⟨g, of, e, hc⟩ := hR.cell i hi
  exact ⟨g, of, e, (World.cell?_of_block (h.block g (World.block_lt_of_cell? _ _ hc) (hb g of none e))).trans hc⟩
theorem wp_pushL {ops : Array Oper} {rest : List Oper} {o : Oper} {a : Act} {Q : Exit → Act → World → Prop} (W0 Wc : World) (B base : Nat) (hgd : o.guard = none) (s x : Operand)
    (ho : o.op = .call { callee := .builtin .append, args := #[s, x], argTypes := #[30, 30] }) (v : Value) (k : Nat) (O : List ByteArray) (hs : a.eval s = v) (g0 : Nat) (d : ByteArray) (hx : a.eval x = .slice (some ⟨g0, 0, none⟩) 1 1)
    (hown : Wc.ownsRow base 9 1 v k (cellsS O)) (hcell : Wc.cell? ⟨g0, 0, none⟩ = some (.string d)) (hbase : base ≤ Wc.heap.size) (hk : (k + 1) * 16 ≤ 140737488355328) (hbel : Below B W0 Wc) (hB : B ≤ base)
    (h : ∀ g c w', w'.ownsRow base 9 1 (.slice (some ⟨g, 0, none⟩) (k + 1) c) (k + 1) (cellsS (O ++ [d])) → Below B W0 w' → Wc.grownBy w' v.ownBlock → (v.ownBlock = some g ∨ g = Wc.heap.size) → wpList Tryd.prog ops Q rest (a.put o.dst (.slice (some ⟨g, 0, none⟩) (k + 1) c)) w') : wpList Tryd.prog ops Q (o :: rest) a Wc := by
  obtain ⟨i0, hi, hz0, hz1, hz2⟩ := info_parts Tryd.infoStr
  refine wpList_append_lies _ hgd s x 30 ho base 9 i0 (.string emp) 1 16 Tryd.underlying30 hi hz0 hz1 hz2 rfl (by decide) _ k _ hs hown ⟨g0, 0, none⟩ 1 1 [.string d] hx rfl ?_ ?_ (by decide) (by unfold maxLen; omega) (by omega) hbase _ rfl ?_
  · intro j u hj
    match j, hj with
    | 0, hj => simp at hj; subst hj; simpa [Addr.add] using hcell
  · intro u hu; simp at hu; subst hu; rfl
  · intro g c w' h1 h2 h3 _
    refine h g c w' (by simpa [cellsS] using h1) (hbel.grown h2 (by omega) ?_) h2 h3
    intro q hq
    have := hown.lt q hq
    omega
end Go.Proofs.YtabfhdmcljdjhaaDoor.Gl
/- The document's Free: the walk. -/
namespace Go.Proofs.YtabfhdmcljdjhaaDoor.Gl
open Go.RowKit
set_option linter.unusedVariables false

theorem apart_start {wr w2 : World} {B n k c : Nat} {v : Value} {xs zs : List Value} {ro : Option Addr} (hw : wr.ownsRow B 9 1 v n xs) (hO : w2.ownsRow B 9 1 v n xs) (h2 : w2.ownsRow wr.heap.size 9 1 (.slice ro k c) k zs) : ∃ b0, Apart w2 b0 w2 v ∧ ∀ g of fz, ro = some ⟨g, of, fz⟩ → b0 ≠ some g := by
  refine ⟨v.ownBlock, Apart.refl _ _, fun g of fz e hb => ?_⟩
  subst e
  have h3 := (hw.lt g hb).2
  rcases h2.2 with ⟨e, _⟩ | ⟨g', cap, cur, e, hg, _⟩
  · cases e
  · simp only [Value.slice.injEq, Option.some.injEq, Addr.mk.injEq] at e
    omega
end Go.Proofs.YtabfhdmcljdjhaaDoor.Gl
/- What the program's tree must answer; the law's same, atom, fixed. -/
namespace Go.Proofs.YtabfhdmcljdjhaaDoor.Gl
open Go.RowKit
set_option linter.unusedVariables false

/- how many free variables, at the most -/
mutual
def widF : Fm → Nat | .mk o x m t a => max (freeF (.mk o x m t a)).length (widFL a)
def widFL : List Fm → Nat | [] => 0 | f :: r => max (widF f) (widFL r)
end
mutual
def plainF : Fm → Bool | .mk o x m t a => !(quant o) && plainFL a
def plainFL : List Fm → Bool | [] => true | f :: r => plainF f && plainFL r
end
noncomputable def ok0 (f : Fm) (n : Nat) : Nat := if chk nmB f = 0 then n else 0
noncomputable def frOf (f : Fm) : List ByteArray := if chk nmB f = 0 then freeF f else []
/- x <= 1 -/
abbrev exx : ByteArray := ⟨#[120]⟩
abbrev atomF : Fm := .mk 9 emp 0 [.mk 1 0 exx [], .mk 0 1 emp []] []
theorem xx_name : IsName exx := by
  refine ⟨⟨1, by unfold IsCnt; decide +kernel, by omega, by omega, ?_⟩, by decide +kernel⟩
  intro j hj
  obtain rfl : j = 0 := by omega
  decide +kernel
theorem xx_nm : nmB exx = true := (nmB_iff _).2 xx_name
theorem atom_right : right nmB atomF := by
  refine ⟨by decide, by decide, ?_⟩
  show (wellF nmB atomF && Tm.allL (wellT nmB) [.mk 1 0 exx [], .mk 0 1 emp []] && Fm.allL (wellT nmB) (wellF nmB) []) = true
  have h1 : wellF nmB atomF = true := by
    show wF nmB 9 emp 0 2 0 = true
    unfold wF
    rw [if_neg (by decide), if_neg (by decide), if_pos (by decide)]
    decide +kernel
  have h2 : Tm.all (wellT nmB) (.mk 1 0 exx []) = true := by
    rw [Tm.all, Tm.allL]
    show (wT nmB 1 0 exx 0 && true) = true
    unfold wT
    rw [if_neg (by decide), if_pos rfl, xx_nm]
    rfl
  have h3 : Tm.all (wellT nmB) (.mk 0 1 emp []) = true := by
    rw [Tm.all, Tm.allL]
    show (wT nmB 0 1 emp 0 && true) = true
    unfold wT
    rw [if_pos rfl]
    decide +kernel
  rw [h1, Tm.allL, Tm.allL, Tm.allL, h2, h3, Fm.allL]
  rfl
theorem atom_chk : chk nmB atomF = 0 := (chk_iff nmB atomF).2 atom_right
theorem atom_free : freeF atomF = [exx] := by
  rw [freeF, namesTL, namesTL, namesTL, namesT, namesT, namesTL, freeFL]
  decide +kernel
theorem bad_chk : chk nmB (.mk 99 emp 0 [] []) = 3 := by
  unfold chk
  rw [meterF, meterTL, meterFL]
  show (St.node 1 (wF nmB 99 emp 0 0 0) ⟨0, 0, 0⟩).e = 3
  have : wF nmB 99 emp 0 0 0 = false := by
    unfold wF
    rw [if_neg (by decide), if_neg (by decide), if_neg (by decide)]
  rw [this]
  rfl
end Go.Proofs.YtabfhdmcljdjhaaDoor.Gl
/- What the nodes of a tree say: the deepest, quantifiers. -/
namespace Go.Proofs.YtabfhdmcljdjhaaDoor.Gl
set_option linter.unusedVariables false

abbrev mxd (m : Int) (l : List Nd) : Int := l.foldl (fun m x => max m x.dp) m
theorem mxd_TL {a : List Tm} (ih : ∀ t ∈ a, ∀ (d : Nat) (m : Int), d + t.deep ≤ 900 → mxd m (ndT t d) = max m ((d : Int) + t.deep - 1)) (d : Nat) : ∀ m : Int, d + Tm.deepL a ≤ 900 → (d : Int) - 1 ≤ m → mxd m (ndTL a d) = max m ((d : Int) + Tm.deepL a - 1) := by
  induction a with
  | nil => intro m _ hm; rw [ndTL, Tm.deepL]; simp only [mxd, List.foldl_nil]; omega
  | cons t r ihr =>
    intro m hd hm
    rw [Tm.deepL] at hd ⊢
    rw [ndTL]
    simp only [mxd, List.foldl_append]
    have e1 := ih t (List.mem_cons_self ..) d m (by omega)
    simp only [mxd] at e1
    rw [e1]
    have e2 := ihr (fun u hu => ih u (List.mem_cons_of_mem _ hu)) (max m ((d : Int) + t.deep - 1)) (by omega) (by omega)
    simp only [mxd] at e2
    rw [e2]
    omega
theorem mxd_T : ∀ t (d : Nat) (m : Int), d + Tm.deep t ≤ 900 → mxd m (ndT t d) = max m ((d : Int) + t.deep - 1) := by
  refine Tm.ind (fun o n x a ih d m hd => ?_)
  rw [Tm.deep] at hd ⊢
  rw [ndT, dn_nat d (by omega)]
  have := mxd_TL ih (d + 1) (max m (d : Int)) (by omega) (by omega)
  simp only [mxd, List.foldl_cons, headT] at this ⊢
  rw [this]
  omega
theorem mxd_FL {a : List Fm} (ih : ∀ t ∈ a, ∀ (d : Nat) (m : Int), d + t.deep ≤ 900 → mxd m (ndF t d) = max m ((d : Int) + t.deep - 1)) (d : Nat) : ∀ m : Int, d + Fm.deepL a ≤ 900 → (d : Int) - 1 ≤ m → mxd m (ndFL a d) = max m ((d : Int) + Fm.deepL a - 1) := by
  induction a with
  | nil => intro m _ hm; rw [ndFL, Fm.deepL]; simp only [mxd, List.foldl_nil]; omega
  | cons t r ihr =>
    intro m hd hm
    rw [Fm.deepL] at hd ⊢
    rw [ndFL]
    simp only [mxd, List.foldl_append]
    have e1 := ih t (List.mem_cons_self ..) d m (by omega)
    simp only [mxd] at e1
    rw [e1]
    have e2 := ihr (fun u hu => ih u (List.mem_cons_of_mem _ hu)) (max m ((d : Int) + t.deep - 1)) (by omega) (by omega)
    simp only [mxd] at e2
    rw [e2]
    omega
theorem mxd_F : ∀ f (d : Nat) (m : Int), d + Fm.deep f ≤ 900 → mxd m (ndF f d) = max m ((d : Int) + f.deep - 1) := by
  refine Fm.ind (fun o x m t a ih d k hd => ?_)
  rw [Fm.deep] at hd ⊢
  rw [ndF, dn_nat d (by omega)]
  have e1 := mxd_TL (a := t) (fun u _ => mxd_T u) (d + 1) (max k (d : Int)) (by omega) (by omega)
  have e2 := mxd_FL ih (d + 1) (max (max k (d : Int)) (((d + 1 : Nat) : Int) + Tm.deepL t - 1)) (by omega) (by omega)
  simp only [mxd, List.foldl_cons, List.foldl_append, headF] at e1 e2 ⊢
  rw [e1, e2]
  omega
theorem mxd_all (f : Fm) (h : f.deep ≤ 40) : mxd 0 (ndF f 1) = f.deep := by
  have := mxd_F f 1 0 (by omega)
  rw [show (((1 : Nat) : Int)) = 1 from rfl] at this
  rw [this]
  omega
/- no quantifier -/
def noq (x : Nd) : Bool := x.isT || !(quant x.op)
theorem noq_T : ∀ t d, (ndT t d).all noq = true := by
  refine Tm.ind (fun o n x a ih d => ?_)
  rw [ndT, List.all_cons]
  have : ∀ (l : List Tm) d, (∀ t ∈ l, t ∈ a) → (ndTL l d).all noq = true := by
    intro l
    induction l with
    | nil => intro d _; rfl
    | cons t r ihr =>
      intro d hm
      rw [ndTL, List.all_append, ih t (hm t (List.mem_cons_self ..)), ihr d (fun u hu => hm u (List.mem_cons_of_mem _ hu))]
      rfl
  rw [this a (dn d) (fun _ h => h)]
  rfl
theorem noq_TL (l : List Tm) (d : Int) : (ndTL l d).all noq = true := by
  induction l with
  | nil => rfl
  | cons t r ih => rw [ndTL, List.all_append, noq_T, ih]; rfl
theorem noq_F : ∀ f d, (ndF f d).all noq = plainF f := by
  refine Fm.ind (fun o x m t a ih d => ?_)
  rw [ndF, plainF, List.all_cons, List.all_append, noq_TL]
  have : ∀ (l : List Fm) d, (∀ t ∈ l, t ∈ a) → (ndFL l d).all noq = plainFL l := by
    intro l
    induction l with
    | nil => intro d _; rw [ndFL, plainFL]; rfl
    | cons t r ihr =>
      intro d hm
      rw [ndFL, plainFL, List.all_append, ih t (hm t (List.mem_cons_self ..)), ihr d (fun u hu => hm u (List.mem_cons_of_mem _ hu))]
  rw [this a (dn d) (fun _ h => h)]
  simp [noq, headF]
theorem right_of {f : Fm} (h : chk nmB f = 0) : f.size ≤ 500 ∧ f.deep ≤ 40 := by
  have := (chk_iff nmB f).1 h
  exact ⟨this.1, this.2.1⟩
end Go.Proofs.YtabfhdmcljdjhaaDoor.Gl
/- Size, Depth, Plain. -/
namespace Go.Proofs.YtabfhdmcljdjhaaDoor.Gl
open Go.RowKit Go.Shelf
set_option linter.unusedVariables false
attribute [local go_sem] Oper.semAt_some

/- a formula's value, written out -/
theorem fm_open {W : World} {f : Fm} {v : Value} (hv : FmV W f v) : ∃ o x m bo n1 c1 ao n2 c2, v = .agg #[.int .i64 o, .string x, .int .i64 m, .slice bo n1 c1, .slice ao n2 c2] ∧ RdF W f (.int .i64 o) (.string x) (.int .i64 m) (.slice bo n1 c1) (.slice ao n2 c2) := by
  obtain ⟨c0, c1, c2, c3, c4, rfl, hr⟩ := hv
  obtain ⟨o, x, m, t, a⟩ := f
  have hr' := hr
  rw [RdF] at hr
  obtain ⟨rfl, rfl, rfl, -, ⟨bo, ct, rfl, -⟩, ao, ca, rfl, -⟩ := hr
  exact ⟨o, x, m, bo, _, ct, ao, _, ca, rfl, hr'⟩
theorem ok0_no {f : Fm} (h : ¬ chk nmB f = 0) (n : Nat) : ok0 f n = 0 := by unfold ok0; rw [if_neg h]
theorem ok0_yes {f : Fm} (h : chk nmB f = 0) (n : Nat) : ok0 f n = n := by unfold ok0; rw [if_pos h]
end Go.Proofs.YtabfhdmcljdjhaaDoor.Gl
/- Plain. -/
namespace Go.Proofs.YtabfhdmcljdjhaaDoor.Gl
open Go.RowKit Go.Shelf
set_option linter.unusedVariables false
attribute [local go_sem] Oper.semAt_some

def NoQ (l : List Nd) (b : Bool) : Prop := l.all noq = b
end Go.Proofs.YtabfhdmcljdjhaaDoor.Gl
/- The program's Rises, isNoName, Index; slices.IndexFunc and ContainsFunc at isNoName. -/
namespace Go.Proofs.YtabfhdmcljdjhaaDoor.Gl
open Go.RowKit
set_option linter.unusedVariables false

theorem pname_yes (s : ByteArray) (w : World) (hs : s.size ≤ 9223372036854775807) (h : IsName s) : Calls Tryd.prog 49 #[.string s] w fun e w' => e = .returned (.bool true) ∧ Below w.heap.size w w' := name_at s true w hs ⟨fun _ => h, fun _ => rfl⟩
theorem pname_not (s : ByteArray) (w : World) (hs : s.size ≤ 9223372036854775807) (h : ¬ IsName s) : Calls Tryd.prog 49 #[.string s] w fun e w' => e = .returned (.bool false) ∧ Below w.heap.size w w' := name_at s false w hs ⟨fun e => (by cases e), fun e => absurd e h⟩
end Go.Proofs.YtabfhdmcljdjhaaDoor.Gl
/- Texts in order; lists of texts that rise; sorting and striking out what stands twice: plain mathematics. -/
namespace Go.Proofs.YtabfhdmcljdjhaaDoor.Gl
set_option linter.unusedVariables false

abbrev L8 := List UInt8
theorem u8_tri (a b : UInt8) : a < b ∨ a = b ∨ b < a := by
  rcases Nat.lt_trichotomy a.toNat b.toNat with h | h | h
  · exact .inl (UInt8.lt_iff_toNat_lt.2 h)
  · exact .inr (.inl (UInt8.toNat_inj.1 h))
  · exact .inr (.inr (UInt8.lt_iff_toNat_lt.2 h))
theorem u8_irr (a : UInt8) : ¬ a < a := fun h => by have := UInt8.lt_iff_toNat_lt.1 h; omega
theorem u8_tr {a b c : UInt8} (h : a < b) (k : b < c) : a < c := by
  have := UInt8.lt_iff_toNat_lt.1 h
  have := UInt8.lt_iff_toNat_lt.1 k
  exact UInt8.lt_iff_toNat_lt.2 (by omega)
theorem l_irr : ∀ a : L8, ¬ a < a
  | [], h => by simp at h
  | x :: a, h => by
    rw [List.cons_lt_cons_iff] at h
    rcases h with h | ⟨_, h⟩
    · exact u8_irr x h
    · exact l_irr a h
theorem l_tr : ∀ a b c : L8, a < b → b < c → a < c
  | a, b, [], _, k => by simp at k
  | a, [], z :: c, h, _ => by simp at h
  | [], y :: b, z :: c, _, _ => by simp
  | x :: a, y :: b, z :: c, h, k => by
    rw [List.cons_lt_cons_iff] at h k ⊢
    rcases h with h | ⟨rfl, h⟩
    · rcases k with k | ⟨rfl, k⟩
      · exact .inl (u8_tr h k)
      · exact .inl h
    · rcases k with k | ⟨rfl, k⟩
      · exact .inl k
      · exact .inr ⟨rfl, l_tr a b c h k⟩
theorem l_tri : ∀ a b : L8, a < b ∨ a = b ∨ b < a
  | [], [] => .inr (.inl rfl)
  | [], _ :: _ => .inl (by simp)
  | _ :: _, [] => .inr (.inr (by simp))
  | x :: a, y :: b => by
    rw [List.cons_lt_cons_iff, List.cons_lt_cons_iff]
    rcases u8_tri x y with h | rfl | h
    · exact .inl (.inl h)
    · rcases l_tri a b with h | rfl | h
      · exact .inl (.inr ⟨rfl, h⟩)
      · exact .inr (.inl rfl)
      · exact .inr (.inr (.inr ⟨rfl, h⟩))
    · exact .inr (.inr (.inl h))
theorem lt_iff (x y : ByteArray) : ltS x y = true ↔ x.toList < y.toList := by
  unfold ltS
  rw [bytesLess_eq, decide_eq_true_eq]
theorem le_iff (x y : ByteArray) : leS x y = true ↔ x.toList < y.toList ∨ x = y := by
  unfold leS
  rw [Bool.or_eq_true, bytesLess_eq, decide_eq_true_eq, eqS_iff]
theorem s_irr (x : ByteArray) : ¬ ltS x x = true := fun h => l_irr _ ((lt_iff x x).1 h)
theorem s_tr {x y z : ByteArray} (h : ltS x y = true) (k : ltS y z = true) : ltS x z = true := (lt_iff x z).2 (l_tr _ _ _ ((lt_iff x y).1 h) ((lt_iff y z).1 k))
theorem s_tri (x y : ByteArray) : ltS x y = true ∨ x = y ∨ ltS y x = true := by
  rw [lt_iff, lt_iff]
  rcases l_tri x.toList y.toList with h | h | h
  · exact .inl h
  · exact .inr (.inl (toList_inj h))
  · exact .inr (.inr h)
/-- the list rises -/
abbrev Ris (l : List ByteArray) : Prop := l.Pairwise (fun x y => ltS x y = true)
theorem ris_cons {x : ByteArray} {l : List ByteArray} : Ris (x :: l) ↔ (∀ y ∈ l, ltS x y = true) ∧ Ris l := List.pairwise_cons
theorem ris_unique {a b : List ByteArray} (ha : Ris a) (hb : Ris b) (h : ∀ x, x ∈ a ↔ x ∈ b) : a = b := by
  induction a generalizing b with
  | nil =>
    cases b with
    | nil => rfl
    | cons y b => exact absurd ((h y).2 (List.mem_cons_self ..)) (by simp)
  | cons x a ih =>
    cases b with
    | nil => exact absurd ((h x).1 (List.mem_cons_self ..)) (by simp)
    | cons y b =>
      rw [ris_cons] at ha hb
      have hxy : x = y := by
        rcases List.mem_cons.1 ((h x).1 (List.mem_cons_self ..)) with e | e
        · exact e
        · rcases List.mem_cons.1 ((h y).2 (List.mem_cons_self ..)) with f | f
          · exact f.symm
          · exact absurd (s_tr (ha.1 y f) (hb.1 x e)) (s_irr x)
      subst hxy
      rw [ih ha.2 hb.2 ?_]
      intro z
      constructor
      · intro hz
        rcases List.mem_cons.1 ((h z).1 (List.mem_cons_of_mem _ hz)) with e | e
        · subst e; exact absurd (ha.1 z hz) (s_irr z)
        · exact e
      · intro hz
        rcases List.mem_cons.1 ((h z).2 (List.mem_cons_of_mem _ hz)) with e | e
        · subst e; exact absurd (hb.1 z hz) (s_irr z)
        · exact e
theorem put_mem (s : ByteArray) (l : List ByteArray) (x : ByteArray) : x ∈ putL s l ↔ x = s ∨ x ∈ l := by
  induction l with
  | nil => simp [putL]
  | cons y l ih =>
    rw [putL]
    split
    · rename_i h
      split
      · simp
      · rename_i k
        rw [le_iff] at h
        rw [lt_iff] at k
        rcases h with h | rfl
        · exact absurd h k
        · simp
    · rw [List.mem_cons, ih, List.mem_cons]
      constructor
      · rintro (h | h | h)
        · exact .inr (.inl h)
        · exact .inl h
        · exact .inr (.inr h)
      · rintro (h | h | h)
        · exact .inr (.inl h)
        · exact .inl h
        · exact .inr (.inr h)
theorem put_ris (s : ByteArray) (l : List ByteArray) (h : Ris l) : Ris (putL s l) := by
  induction l with
  | nil => simp [putL]
  | cons y l ih =>
    have h' := h
    rw [ris_cons] at h
    rw [putL]
    split
    · split
      · rename_i k
        rw [ris_cons]
        refine ⟨fun z hz => ?_, h'⟩
        rcases List.mem_cons.1 hz with rfl | hz
        · exact k
        · exact s_tr k (h.1 z hz)
      · exact h'
    · rename_i k
      rw [ris_cons]
      refine ⟨fun z hz => ?_, ih h.2⟩
      rcases (put_mem s l z).1 hz with rfl | hz
      · rcases s_tri z y with e | e | e
        · exact absurd ((le_iff z y).2 (.inl ((lt_iff z y).1 e))) k
        · exact absurd ((le_iff z y).2 (.inr e)) k
        · exact e
      · exact h.1 z hz
open Classical in
theorem put_len (s : ByteArray) (l : List ByteArray) (h : Ris l) : (putL s l).length = if s ∈ l then l.length else l.length + 1 := by
  induction l with
  | nil => simp [putL]
  | cons y l ih =>
    have h' := h
    rw [ris_cons] at h
    rw [putL]
    split
    · rename_i k
      rw [le_iff] at k
      split
      · rename_i k2
        rw [if_neg]
        · simp
        · intro hm
          rcases List.mem_cons.1 hm with rfl | hm
          · exact s_irr _ k2
          · exact s_irr _ (s_tr k2 (h.1 s hm))
      · rename_i k2
        rw [lt_iff] at k2
        rcases k with k | rfl
        · exact absurd k k2
        · rw [if_pos (List.mem_cons_self ..)]
    · rename_i k
      rw [List.length_cons, ih h.2]
      have hne : s ≠ y := fun e => k ((le_iff s y).2 (.inr e))
      by_cases hm : s ∈ l
      · rw [if_pos hm, if_pos (List.mem_cons_of_mem _ hm), List.length_cons]
      · rw [if_neg hm, if_neg (fun e => by rcases List.mem_cons.1 e with e | e <;> contradiction), List.length_cons]
theorem fold_all (l O : List ByteArray) (h : Ris O) : Ris (l.foldl (fun o s => putL s o) O) ∧ (∀ x, x ∈ l.foldl (fun o s => putL s o) O ↔ x ∈ l ∨ x ∈ O) := by
  induction l generalizing O with
  | nil => exact ⟨h, fun x => by simp⟩
  | cons y l ih =>
    obtain ⟨h1, h2⟩ := ih (putL y O) (put_ris y O h)
    refine ⟨h1, fun x => ?_⟩
    rw [List.foldl_cons, h2, put_mem, List.mem_cons]
    constructor
    · rintro (h | h | h)
      · exact .inl (.inr h)
      · exact .inl (.inl h)
      · exact .inr h
    · rintro ((h | h) | h)
      · exact .inr (.inl h)
      · exact .inl h
      · exact .inr (.inr h)
theorem tog_ris (l : List ByteArray) : Ris (togL l) := (fold_all l [] List.Pairwise.nil).1
theorem tog_mem (l : List ByteArray) (x : ByteArray) : x ∈ togL l ↔ x ∈ l := by
  have := (fold_all l [] List.Pairwise.nil).2 x
  simpa [togL] using this
theorem ris_nodup {l : List ByteArray} (h : Ris l) : l.Nodup := h.imp (fun {x y} h e => by subst e; exact s_irr x h)
open Classical in
theorem fold_len (l O : List ByteArray) (h : Ris O) : (l.foldl (fun o s => putL s o) O).length = l.length + O.length ↔ l.Nodup ∧ ∀ x ∈ l, x ∉ O := by
  induction l generalizing O with
  | nil => simp
  | cons y l ih =>
    have hp := put_len y O h
    have hle := fold_length l (putL y O)
    have hi := ih (putL y O) (put_ris y O h)
    rw [List.foldl_cons, List.length_cons, List.nodup_cons]
    by_cases hm : y ∈ O
    · rw [if_pos hm] at hp
      constructor
      · intro he; omega
      · rintro ⟨_, h2⟩; exact absurd hm (h2 y (List.mem_cons_self ..))
    · rw [if_neg hm] at hp
      have e : l.length + 1 + O.length = l.length + (putL y O).length := by omega
      rw [e, hi]
      constructor
      · rintro ⟨h1, h2⟩
        refine ⟨⟨fun hy => h2 y hy ((put_mem y O y).2 (.inl rfl)), h1⟩, fun x hx => ?_⟩
        rcases List.mem_cons.1 hx with rfl | hx
        · exact hm
        · exact fun ho => h2 x hx ((put_mem y O x).2 (.inr ho))
      · rintro ⟨⟨h1, h2⟩, h3⟩
        refine ⟨h2, fun x hx ho => ?_⟩
        rcases (put_mem y O x).1 ho with rfl | ho
        · exact h1 hx
        · exact h3 x (List.mem_cons_of_mem _ hx) ho
theorem tog_len (l : List ByteArray) : (togL l).length = l.length ↔ l.Nodup := by
  have := fold_len l [] List.Pairwise.nil
  simpa [togL] using this
theorem tog_self {l : List ByteArray} (h : Ris l) : togL l = l := ris_unique (tog_ris l) h (tog_mem l)
/- between texts and lists of bytes -/
abbrev tl (T : List ByteArray) : List L8 := T.map (fun x => x.data.toList)
abbrev un (L : List L8) : List ByteArray := L.map (fun l => ⟨l.toArray⟩)
theorem un_tl (T : List ByteArray) : un (tl T) = T := by
  unfold un tl
  rw [List.map_map]
  exact (List.map_congr_left (g := id) (fun x _ => by cases x; simp)).trans (List.map_id _)
theorem cells_un (L : List L8) : cellsS (un L) = L.map encStr := by unfold cellsS un; rw [List.map_map]; rfl
theorem cells_tl (T : List ByteArray) : cellsS T = (tl T).map encStr := by
  conv => lhs; rw [← un_tl T]
  exact cells_un _
/-- sorted -/
def srt (T : List ByteArray) : List ByteArray := un ((tl T).mergeSort fun x y => decide (x ≤ y))
theorem srt_length (T : List ByteArray) : (srt T).length = T.length := by simp [srt]
theorem srt_mem (T : List ByteArray) (x : ByteArray) : x ∈ srt T ↔ x ∈ T := by
  have h : ∀ L L' : List L8, (∀ y, y ∈ L ↔ y ∈ L') → (x ∈ un L ↔ x ∈ un L') := fun L L' h => by
    rw [List.mem_map, List.mem_map]
    exact ⟨fun ⟨y, h1, h2⟩ => ⟨y, (h y).1 h1, h2⟩, fun ⟨y, h1, h2⟩ => ⟨y, (h y).2 h1, h2⟩⟩
  rw [srt, h _ (tl T) (fun y => (List.mergeSort_perm _ _).mem_iff), un_tl]
theorem srt_nodup (T : List ByteArray) : (srt T).Nodup ↔ T.Nodup := by
  have hp : (srt T).Perm T := by
    have := ((List.mergeSort_perm (tl T) fun x y => decide (x ≤ y)).map (fun l : L8 => (⟨l.toArray⟩ : ByteArray)))
    have e := un_tl T
    unfold un at e
    rw [e] at this
    exact this
  exact hp.nodup_iff
theorem l_le_tot (a b : L8) : (decide (a ≤ b) || decide (b ≤ a)) = true := by
  rw [Bool.or_eq_true, decide_eq_true_eq, decide_eq_true_eq]
  rcases l_tri a b with h | rfl | h
  · exact .inl (fun k => l_irr _ (l_tr _ _ _ h k))
  · exact .inl (l_irr _)
  · exact .inr (fun k => l_irr _ (l_tr _ _ _ h k))
theorem l_le_tr (a b c : L8) (h : decide (a ≤ b) = true) (k : decide (b ≤ c) = true) : decide (a ≤ c) = true := by
  rw [decide_eq_true_eq] at *
  intro hc
  rcases l_tri a b with e | rfl | e
  · exact k (l_tr _ _ _ hc e)
  · exact k hc
  · exact h e
theorem srt_le (T : List ByteArray) : (srt T).Pairwise (fun x y => ltS x y = true ∨ x = y) := by
  unfold srt un
  rw [List.pairwise_map]
  refine (List.pairwise_mergeSort (l_le_tr) (l_le_tot) (tl T)).imp ?_
  intro a b h
  rw [decide_eq_true_eq] at h
  rw [lt_iff]
  show _ ∨ _
  rw [ByteArray.toList_eq, ByteArray.toList_eq]
  rcases l_tri a b with e | rfl | e
  · exact .inl e
  · exact .inr rfl
  · exact absurd e h
/-- sorted without anything twice: it rises -/
theorem srt_ris {T : List ByteArray} (h : T.Nodup) : Ris (srt T) := by
  have h1 := srt_le T
  have h2 := (srt_nodup T).2 h
  exact (h1.and h2).imp (fun {x y} ⟨a, b⟩ => a.resolve_right b)
theorem srt_tog {T : List ByteArray} (h : T.Nodup) : srt T = togL T := ris_unique (srt_ris h) (tog_ris T) (fun x => by rw [srt_mem, tog_mem])
end Go.Proofs.YtabfhdmcljdjhaaDoor.Gl
/- Striking out what stands twice; which lists rise; what Sorted and Union answer: plain mathematics. -/
namespace Go.Proofs.YtabfhdmcljdjhaaDoor.Gl
set_option linter.unusedVariables false

theorem get_bang (L : List L8) (j : Nat) (h : j < L.length) : L.toArray[j]! = L[j] := by
  rw [getElem!_pos L.toArray j (by simpa using h)]
  rfl
theorem comp_inv (L : List L8) (hL : L.Pairwise (fun a b => a < b ∨ a = b)) : ∀ m, m ≤ L.length → (Lib.compactUpTo L.toArray m).Pairwise (fun a b => a < b) ∧ ∀ x, x ∈ Lib.compactUpTo L.toArray m ↔ x ∈ L.take m := by
  intro m
  induction m with
  | zero => intro _; simp [Lib.compactUpTo]
  | succ m ih =>
    intro hm
    obtain ⟨h1, h2⟩ := ih (by omega)
    have hlt : m < L.length := by omega
    rw [Lib.compactUpTo_succ, get_bang L m hlt, List.take_succ_eq_append_getElem hlt]
    by_cases hk : Lib.keeps L.toArray m = true
    · rw [if_pos hk]
      refine ⟨?_, fun x => by rw [List.mem_append, List.mem_append, h2]⟩
      rw [List.pairwise_append]
      refine ⟨h1, by simp, fun a ha b hb => ?_⟩
      rw [List.mem_singleton] at hb
      subst hb
      rw [h2] at ha
      obtain ⟨i, hi, rfl⟩ := List.getElem_of_mem ha
      have hi' : i < m := by rw [List.length_take] at hi; omega
      rw [List.getElem_take]
      have hp := List.pairwise_iff_getElem.1 hL
      have hkk : m = 0 ∨ L.toArray[m]! ≠ L.toArray[m - 1]! := by unfold Lib.keeps at hk; exact of_decide_eq_true hk
      rw [get_bang L m hlt, get_bang L (m - 1) (by omega)] at hkk
      have hne := hkk.resolve_left (by omega)
      have hlast : L[m - 1] < L[m] := (hp (m - 1) m (by omega) hlt (by omega)).resolve_right (fun e => hne e.symm)
      rcases Nat.lt_or_eq_of_le (show i ≤ m - 1 by omega) with h | h
      · rcases hp i (m - 1) (by omega) (by omega) h with e | e
        · exact l_tr _ _ _ e hlast
        · rw [e]; exact hlast
      · subst h; exact hlast
    · rw [if_neg hk, List.append_nil]
      refine ⟨h1, fun x => ?_⟩
      rw [h2, List.mem_append, List.mem_singleton]
      refine ⟨.inl, fun h => ?_⟩
      rcases h with h | rfl
      · exact h
      · have hkk : ¬ (m = 0 ∨ L.toArray[m]! ≠ L.toArray[m - 1]!) := fun e => hk (by unfold Lib.keeps; exact decide_eq_true e)
        have hm0 : ¬ m = 0 := fun e => hkk (.inl e)
        have he : L.toArray[m]! = L.toArray[m - 1]! := Classical.byContradiction (fun e => hkk (.inr e))
        rw [get_bang L m hlt, get_bang L (m - 1) (by omega)] at he
        rw [he]
        refine List.mem_iff_getElem.2 ⟨m - 1, by rw [List.length_take]; omega, ?_⟩
        rw [List.getElem_take]
/-- struck out what stands twice in a row -/
def cmpt (L : List L8) : List ByteArray := un (Lib.compact L)
theorem cmpt_tog (T : List ByteArray) : cmpt ((tl T).mergeSort fun x y => decide (x ≤ y)) = togL T := by
  have hs := srt_le T
  unfold srt un at hs
  rw [List.pairwise_map] at hs
  have hL : ((tl T).mergeSort fun x y => decide (x ≤ y)).Pairwise (fun a b => a < b ∨ a = b) := hs.imp (fun {a b} h => by
    rw [lt_iff, ByteArray.toList_eq, ByteArray.toList_eq] at h
    rcases h with h | h
    · exact .inl h
    · have := congrArg (fun x : ByteArray => x.data.toList) h
      exact .inr (by simpa using this))
  have hm := srt_mem T
  unfold srt at hm
  generalize (tl T).mergeSort (fun x y => decide (x ≤ y)) = L at *
  obtain ⟨h1, h2⟩ := comp_inv L hL L.length (Nat.le_refl _)
  rw [List.take_length] at h2
  refine ris_unique ?_ (tog_ris T) (fun x => ?_)
  · show List.Pairwise _ (List.map _ _)
    rw [List.pairwise_map]
    refine h1.imp (fun {a b} h => ?_)
    rw [lt_iff, ByteArray.toList_eq, ByteArray.toList_eq]
    exact h
  · rw [tog_mem, ← hm]
    unfold cmpt un Lib.compact
    rw [List.mem_map, List.mem_map]
    exact ⟨fun ⟨y, a, b⟩ => ⟨y, (h2 y).1 a, b⟩, fun ⟨y, a, b⟩ => ⟨y, (h2 y).2 a, b⟩⟩
theorem cmpt_le (L : List L8) : (Lib.compact L).length ≤ L.length := by
  unfold Lib.compact Lib.compactUpTo
  rw [List.length_map]
  exact Nat.le_trans (List.length_filter_le _ _) (by simp)
theorem ris_adj {T : List ByteArray} (h : ∀ i, i < T.length → 0 < i → ltS (T.getD (i - 1) emp) (T.getD i emp) = true) : Ris T := by
  refine List.pairwise_iff_getElem.2 (fun i j hi hj hij => ?_)
  have key : ∀ d, i + d + 1 < T.length → ltS (T.getD i emp) (T.getD (i + d + 1) emp) = true := by
    intro d
    induction d with
    | zero => intro hd; exact h (i + 1) hd (by omega)
    | succ d ih =>
      intro hd
      exact s_tr (ih (by omega)) (h (i + (d + 1) + 1) hd (by omega))
  have := key (j - i - 1) (by omega)
  rw [show i + (j - i - 1) + 1 = j by omega, sgetD_of hi, sgetD_of hj] at this
  exact this
theorem rise_iff (T : List ByteArray) : Rise T ↔ (∀ x ∈ T, IsName x) ∧ Ris T := by
  constructor
  · intro h
    refine ⟨fun x hx => ?_, ris_adj (fun i hi hi0 => (h i hi).2 hi0)⟩
    obtain ⟨i, hi, rfl⟩ := List.getElem_of_mem hx
    have := (h i hi).1
    rwa [sgetD_of hi] at this
  · rintro ⟨h1, h2⟩ i hi
    refine ⟨by rw [sgetD_of hi]; exact h1 _ (List.getElem_mem hi), fun hi0 => ?_⟩
    rw [sgetD_of hi, sgetD_of (show i - 1 < T.length by omega)]
    exact List.pairwise_iff_getElem.1 h2 (i - 1) i (by omega) hi (by omega)
def Names (T : List ByteArray) : Prop := ∀ x ∈ T, IsName x
/-- what Sorted answers -/
def SortedIs (T r : List ByteArray) (er : Nat) : Prop := (¬ Names T ∧ r = [] ∧ er = 6) ∨ (Names T ∧ ¬ T.Nodup ∧ r = [] ∧ er = 5) ∨ (Names T ∧ T.Nodup ∧ r = togL T ∧ er = 0)
theorem sorted_is (T : List ByteArray) : ∃ r er, SortedIs T r er := by
  by_cases h1 : Names T
  · by_cases h2 : T.Nodup
    · exact ⟨_, _, .inr (.inr ⟨h1, h2, rfl, rfl⟩)⟩
    · exact ⟨_, _, .inr (.inl ⟨h1, h2, rfl, rfl⟩)⟩
  · exact ⟨_, _, .inl ⟨h1, rfl, rfl⟩⟩
theorem SortedIs.le {T r : List ByteArray} {er : Nat} (h : SortedIs T r er) : r.length ≤ T.length := by
  rcases h with ⟨_, rfl, _⟩ | ⟨_, _, rfl, _⟩ | ⟨_, _, rfl, _⟩
  · simp
  · simp
  · exact tog_length T
/-- what Union answers -/
def UnionIs (A B r : List ByteArray) (er : Nat) : Prop := (¬ (Rise A ∧ Rise B) ∧ r = [] ∧ er = 3) ∨ ((Rise A ∧ Rise B) ∧ r = togL (A ++ B) ∧ er = 0)
theorem union_is (A B : List ByteArray) : ∃ r er, UnionIs A B r er := by
  by_cases h1 : Rise A ∧ Rise B
  · exact ⟨_, _, .inr ⟨h1, rfl, rfl⟩⟩
  · exact ⟨_, _, .inl ⟨h1, rfl, rfl⟩⟩
theorem UnionIs.le {A B r : List ByteArray} {er : Nat} (h : UnionIs A B r er) : r.length ≤ A.length + B.length := by
  rcases h with ⟨_, rfl, _⟩ | ⟨_, rfl, _⟩
  · simp
  · have := tog_length (A ++ B)
    rwa [List.length_append] at this
theorem srt_rise {T : List ByteArray} (h : Names T) : Rise (srt T) ↔ T.Nodup := by
  rw [rise_iff]
  constructor
  · rintro ⟨_, h2⟩
    exact (srt_nodup T).1 (ris_nodup h2)
  · intro h2
    exact ⟨fun x hx => h x ((srt_mem T x).1 hx), srt_ris h2⟩
theorem Short.srt {T : List ByteArray} (h : Short T) : Short (srt T) := fun x hx => h x ((srt_mem T x).1 hx)
theorem Short.app {A B : List ByteArray} (h : Short A) (k : Short B) : Short (A ++ B) := fun x hx => by
  rcases List.mem_append.1 hx with e | e
  · exact h x e
  · exact k x e
end Go.Proofs.YtabfhdmcljdjhaaDoor.Gl
/- Slices of texts in memory: copied, joined, grown, sorted, struck out. -/
namespace Go.Proofs.YtabfhdmcljdjhaaDoor.Gl
open Go.RowKit Go.Sort
set_option linter.unusedVariables false

theorem owns_prefix {w : World} {base g k cap c2 : Nat} {e : TypeId} {xs ys : List Value} (hl : xs.length = k) (h : w.ownsRow base e 1 (.slice (some ⟨g, 0, none⟩) (k + ys.length) cap) (k + ys.length) (xs ++ ys)) (hc : c2 = cap) : w.ownsRow base e 1 (.slice (some ⟨g, 0, none⟩) k c2) k xs := by
  subst hc
  rcases h.2 with ⟨e1, _⟩ | ⟨g', cap', cur, e1, hb, hh, hnc, hcm, hcs, ht⟩
  · cases e1
  · simp only [Value.slice.injEq, Option.some.injEq, Addr.mk.injEq, and_true, true_and] at e1
    obtain ⟨rfl, rfl⟩ := e1
    refine ⟨by omega, .inr ⟨g, c2, cur, rfl, hb, hh, by omega, hcm, hcs, ?_⟩⟩
    have := congrArg (List.take k) ht
    rw [List.take_take, Nat.mul_one, Nat.min_eq_left (by omega)] at this
    rw [Nat.mul_one, this, ← hl]
    exact List.take_left
theorem owns_len {w : World} {base n : Nat} {v : Value} {T : List ByteArray} (h : w.ownsRow base 9 1 v n (cellsS T)) : T.length = n := by
  have := h.1
  rw [List.length_map] at this
  omega
theorem srt_nil : srt [] = [] := by simp [srt]
end Go.Proofs.YtabfhdmcljdjhaaDoor.Gl
/- The program's Sorted. -/
namespace Go.Proofs.YtabfhdmcljdjhaaDoor.Gl
open Go.RowKit
set_option linter.unusedVariables false

theorem sizeStr : (Tryd.prog.info? 9).map (·.size) = some 1 := by kernel_rfl
/-- 'copy(row, names)' into a row of the call's own, of the same length -/
theorem copy_runS (w0 W : World) (B base g2 m : Nat) (T : List ByteArray) (Z : List Value) (ao : Option Addr) (sc : Nat)
    (hown : W.ownsRow base 9 1 (.slice (some ⟨g2, 0, none⟩) m m) m Z) (hR : RdS W ao m sc T) (hb : Below B w0 W) (hBg : B ≤ g2) :
    ∃ w', (Builtin.copy_ #[30, 30] 3 #[.slice (some ⟨g2, 0, none⟩) m m, .slice ao m sc]).run Tryd.prog W = .ok (goInt m) w' ∧ w'.ownsRow base 9 1 (.slice (some ⟨g2, 0, none⟩) m m) m (cellsS T) ∧ Below B w0 w' := by
  have hzl := hR.eqlen
  cases ao with
  | none =>
    have hc0 := hR.isnil rfl
    have hl := hR.lecap
    obtain rfl : sc = 0 := hc0
    obtain rfl : m = 0 := by omega
    have hz : T = [] := List.length_eq_zero_iff.1 hzl
    subst hz
    have hZ : Z = [] := List.length_eq_zero_iff.1 (by have := hown.1; omega)
    subst hZ
    exact ⟨W, run_copy_nil (P := Tryd.prog) W 30 30 3 9 ⟨g2, 0, none⟩ 0 0 Tryd.underlying30 (by kernel_rfl), hown, hb⟩
  | some ad =>
    rcases hown.2 with ⟨e, _⟩ | ⟨g', cap, cur, e, hbg, hh, _, hcm, hcs, _⟩
    · cases e
    · simp only [Value.slice.injEq, Option.some.injEq, Addr.mk.injEq, and_true, true_and] at e
      obtain ⟨rfl, rfl⟩ := e
      have hl : (cellsS T).length = m := by rw [List.length_map, hzl]
      have hrun := run_copy_row (P := Tryd.prog) W 30 30 3 9 g2 0 m m ad m sc cur 9 (cellsS T) Tryd.underlying30 sizeStr hh (by rw [hl]; exact (Nat.min_self m).symm) (cells_argA hR) (by omega) (strs_oneCell T)
      rw [hl] at hrun
      refine ⟨_, hrun, ?_, below_setRow hb hBg _⟩
      have hw := setRow_heap W g2 cur (cur.toList.take 0 ++ cellsS T ++ cur.toList.drop (0 + m)).toArray 9 (0, 0) hh
      have he : cur.toList.take 0 ++ cellsS T ++ cur.toList.drop (0 + m) = cellsS T := by
        rw [List.take_zero, List.nil_append, Nat.zero_add, List.drop_of_length_le (by simp only [Array.length_toList]; omega), List.append_nil]
      rw [he] at hw ⊢
      refine ⟨by omega, .inr ⟨g2, m, _, rfl, hbg, hw, Nat.le_refl _, hcm, by simpa using hl, ?_⟩⟩
      simp only [Nat.mul_one]
      exact List.take_of_length_le (by omega)
theorem owns_below2 {W0 w w' : World} {B base : Nat} {v : Value} {n : Nat} {xs : List Value} (hb : Below B W0 w) (h : w.ownsRow base 9 1 v n xs) (hB : B ≤ base) (hg : w.grownBy w' v.ownBlock) (hs : B ≤ w.heap.size) : Below B W0 w' :=
  hb.grown hg hs (fun k hk => by have := h.lt k hk; omega)
theorem rds_of_own2 {w : World} {base : Nat} {ro : Option Addr} {n c : Nat} {ss : List ByteArray} (h : w.ownsRow base 9 1 (.slice ro n c) n (cellsS ss)) : RdS w ro n c ss := by
  obtain ⟨ro', cr, hv, hR⟩ := rds_of_owns h
  obtain ⟨rfl, _, rfl⟩ := Value.slice.inj hv
  exact hR
end Go.Proofs.YtabfhdmcljdjhaaDoor.Gl
/- slices.Concat; Union, the program's and the document's. -/
namespace Go.Proofs.YtabfhdmcljdjhaaDoor.Gl
open Go.RowKit
set_option linter.unusedVariables false

theorem tl_un (L : List L8) : tl (un L) = L := by
  unfold un tl
  rw [List.map_map]
  exact (List.map_congr_left (g := id) (fun x _ => by simp)).trans (List.map_id _)
theorem owns_trans {w w1 w2 : World} {v : Value} {n : Nat} {xs : List Value} (h : Below w.heap.size w w1) (k : w2.ownsRow w1.heap.size 9 1 v n xs) : w2.ownsRow w.heap.size 9 1 v n xs := owns_mono k h.size
end Go.Proofs.YtabfhdmcljdjhaaDoor.Gl
/- The names in a term: termNames. -/
namespace Go.Proofs.YtabfhdmcljdjhaaDoor.Gl
open Go.RowKit Go.Shelf
set_option linter.unusedVariables false
attribute [local go_sem] Oper.semAt_some

set_option maxHeartbeats 2000000 in
theorem clone_at (t : ByteArray) (w : World) (ht : t.size ≤ 4096) :
    Calls Tryd.prog 53 #[.string t] w fun e w' => e = .returned (.string t) ∧ Below w.heap.size w w' := by
  have K : Hid (∀ w, Calls Tryd.prog 57 #[.string t] w fun e w' => e = .returned (.string t) ∧ Below w.heap.size w w') := fun w => clone_lib t w (by omega)
  go_enter Tryd.func53, Tryd.ntmps53
  go_wp2_with (go_at_call 57; refine (K.out _).mono ?_; rintro e w2 ⟨rfl, hB2⟩)
  go_ret
  exact ⟨rfl, hB2⟩
theorem kp_grow {w w' : World} {n₀ k size : Nat} {e : TypeId} {v : Value} {xs : List Value} (hrow : w.ownsRow n₀ e size v k xs) (hg : w.grownBy w' v.ownBlock) (he : ¬ WalkTy e) (hn : n₀ ≤ w.heap.size) : Kp n₀ w w' := by
  rcases hrow.2 with ⟨rfl, _⟩ | ⟨g, cap, cur, rfl, hb, hh, _⟩
  · exact ⟨(Below.refl _ _).grown hg hn (fun k e => by cases e), fun k vs t m _ hk => (hg.block k (Array.getElem?_eq_some_iff.1 hk).1 (fun e => by cases e)).trans hk⟩
  · exact Kp.one hg hn hb (fun vs t m h => by rw [hh] at h; cases h; exact he)
/-- a name behind others, by append, the list in a box -/
theorem push_facts {W' w5 : World} {n₀ B K : Nat} {v : Value} {L : List ByteArray} (s : ByteArray) (hv : Boxed W' B 30 v) (hrow : W'.ownsRow n₀ 9 1 v L.length (cellsS L)) (hn₀ : n₀ ≤ W'.heap.size) (hB : n₀ ≤ B) (hB5 : Below W'.heap.size W' w5) (hk : L.length ≤ 100000) :
    ∃ g' c' w7, (Builtin.append_ #[30, 30] 30 #[v, .slice (some ⟨w5.heap.size, 0, none⟩) 1 1]).run Tryd.prog (w5.alloc (.cells #[.string s] 9)) = .ok (.slice (some ⟨g', 0, none⟩) (L.length + 1) c') w7 ∧
      w5.cell? ⟨B, 0, none⟩ = some v ∧ (w5.alloc (.cells #[.string s] 9)).cell? ⟨B, 0, none⟩ = some v ∧ w7.cell? ⟨B, 0, none⟩ = some v ∧ w7.frozen? ⟨B, 0, none⟩ = false ∧
      Boxed (w7.setCell ⟨B, 0, none⟩ (.slice (some ⟨g', 0, none⟩) (L.length + 1) c')) B 30 (.slice (some ⟨g', 0, none⟩) (L.length + 1) c') ∧ (w7.setCell ⟨B, 0, none⟩ (.slice (some ⟨g', 0, none⟩) (L.length + 1) c')).ownsRow n₀ 9 1 (.slice (some ⟨g', 0, none⟩) (L.length + 1) c') (L ++ [s]).length (cellsS (L ++ [s])) ∧
      KeepsFrom K W' (w7.setCell ⟨B, 0, none⟩ (.slice (some ⟨g', 0, none⟩) (L.length + 1) c')) ∧ Kp n₀ W' (w7.setCell ⟨B, 0, none⟩ (.slice (some ⟨g', 0, none⟩) (L.length + 1) c')) := by
  obtain ⟨i0, hi, hz0, hz1, hz2⟩ := info_parts Tryd.infoStr
  have hv5 := box_keep hv hB5
  have hrow5 := owns_below hrow hB5
  have hn5 : n₀ ≤ w5.heap.size := Nat.le_trans hn₀ hB5.size
  obtain ⟨v', w7, hrun, h1, h2, -⟩ := run_append_own (P := Tryd.prog) (w5.alloc (.cells #[.string s] 9)) n₀ 30 30 9 i0 (.string emp) 1 16 Tryd.underlying30 hi hz0 hz1 hz2 rfl (by decide) v L.length (cellsS L) (hrow5.alloc _) ⟨w5.heap.size, 0, none⟩ 1 1 [.string s] rfl (cell_one_new _ _ _) (by intro u hu; simp at hu; subst hu; rfl) (by unfold maxLen; omega) (by omega) (by simp; omega)
  obtain ⟨g', c', rfl⟩ := ownsRow_succ h1
  obtain ⟨a1, a2, a3, a4, a5⟩ := hv5.appended (by decide) hrow5 hn5 hB h1 h2
  have e1 : cellsS (L ++ [s]) = cellsS L ++ [.string s] := by simp [cellsS]
  refine ⟨g', c', w7, hrun, hv5.cell, (hv5.alloc _).cell, a1.cell, a1.frozen, a2, by rw [e1, List.length_append]; exact a3, (keeps_of hB5).trans (a4.from _), ?_⟩
  have hBa : Below w5.heap.size w5 (w5.alloc (.cells #[.string s] 9)) := (Below.refl _ _).alloc (Nat.le_refl _) _
  exact (Kp.of hB5 hn₀).trans ((Kp.of hBa hn5).trans ((kp_grow (hrow5.alloc _) h2 (by unfold WalkTy; decide) (by simp; omega)).trans (kp_set a1 (by unfold WalkTy; decide) hB _)))
/-- an append at a step of a region that draws its order -/
theorem step_app {F : Fence} {n : Nat} {ops : Array Oper} {o : Oper} {a : Act} {w w' : World} {K : Act → World → Prop} {Q : Exit → Act → World → Prop} {E : Prop} {v1 v2 v' : Value} {s x : Operand} {t : TypeId} (hg : o.guard = none)
    (hop : o.op = .call { callee := .builtin .append, args := #[s, x], argTypes := #[t, t] }) (hty : o.type = t) (hs : a.eval s = v1) (hx : a.eval x = v2) (hrun : (Builtin.append_ #[t, t] t #[v1, v2]).run Tryd.prog w = .ok v' w') (hK : K (a.put o.dst v') w') :
    if Region.wanted o (yielded ops a.tmps) = true then Oper.wpIn F n Tryd.prog o a w K Q else E := by
  rw [if_pos (by simp [Region.wanted, hg])]
  unfold Oper.wpIn
  refine ⟨by simp [Oper.about, hop, resolve, Target.leads, Sem.run_pure], ?_⟩
  rw [Oper.semAt_plain F _ _ (by rw [hop]; intro c hc'; cases hc')]
  simp [execOp, hop, resolve, invoke, builtin, hs, hx, hty, hrun, Result.andThen]
  exact hK
/- the names of nodes -/
def nms (l : List Nd) : List ByteArray := (l.filter (fun x => x.top == 1)).map (·.name)
theorem nms_yes {l : List Nd} {x : Nd} (h : x.top = 1) : nms (l ++ [x]) = nms l ++ [x.name] := by simp [nms, List.filter_append, h]
theorem nms_no {l : List Nd} {x : Nd} (h : ¬ x.top = 1) : nms (l ++ [x]) = nms l := by simp [nms, List.filter_append, h]
theorem nms_len (l : List Nd) : (nms l).length ≤ l.length := by simp [nms]; exact List.length_filter_le _ _
abbrev PdN (x : Nd) : Prop := x.top = 1 → x.name.size ≤ 4096
def valsN (l : List (NdP PdN)) : List Nd := l.map (·.1)
theorem valsN_snoc (l : List (NdP PdN)) (x : NdP PdN) : valsN (l ++ [x]) = valsN l ++ [x.1] := by simp [valsN]
theorem valsN_len (l : List (NdP PdN)) : (valsN l).length = l.length := by simp [valsN]
theorem srt_own_tog (T : List ByteArray) : cmpt (tl (srt T)) = togL T := by
  have : tl (srt T) = (tl T).mergeSort fun x y => decide (x ≤ y) := by
    unfold srt
    rw [tl, un, List.map_map]
    exact (List.map_congr_left (fun l _ => by rfl)).trans (List.map_id _)
  rw [this]
  exact cmpt_tog T

end Go.Proofs.YtabfhdmcljdjhaaDoor.Gl
