/- Three sets of the program beside three of the document's: what lies in memory, and what a call leaves of it. -/
import Derived.Test.YtholafecbmhhhaaNilW
import Derived.Test.YtholafecbmhhhaaSetF
namespace Go.Proofs.Ytholafecbmhhhaa.Dg
open Go.RowKit
set_option linter.unusedVariables false

/-- one set of the program and one of the document's -/
structure One where
  p : Nat
  g : Nat
  n : Nat
  m : Nat
  C : List Nat
  a : Option Addr
  c : Nat
  T : List Bool
def One.row (e : One) : Option Nat := (Value.slice e.a e.n e.c).ownBlock
def One.Has (e : One) (b : Nat) : Prop := b = e.p ∨ b = e.g ∨ e.row = some b
/-- what is so of one of them -/
structure Pt (w : World) (Wb i : Nat) (e : One) : Prop where
  bs : Bs w e.p e.g e.n e.m e.C
  rs : Rs w ⟨Wb, i, none⟩ e.a e.n e.c e.T
  inn : ∀ b, e.row = some b → b ≠ e.p ∧ b ≠ e.g
structure Pl (B : Nat) (w : World) (Sb Wb k : Nat) (E : Nat → One) : Prop where
  sc : ∀ i, i < 3 → ∃ v, w.cell? ⟨Sb, i, none⟩ = some v
  wc : ∀ i, i < 3 → ∃ v, w.cell? ⟨Wb, i, none⟩ = some v
  sfz : ∀ i, w.frozen? ⟨Sb, i, none⟩ = false
  wfz : ∀ i, w.frozen? ⟨Wb, i, none⟩ = false
  sets : ∀ i, i < k → w.cell? ⟨Sb, i, none⟩ = some (at_p (E i).p)
  pt : ∀ i, i < k → Pt w Wb i (E i)
  own : ∀ i, i < k → ∀ b, (E i).Has b → B ≤ b ∧ b ≠ Sb ∧ b ≠ Wb
  dis : ∀ i j, i < k → j < k → i ≠ j → ∀ b, (E i).Has b → ¬ (E j).Has b
  sw : Sb ≠ Wb
  bS : B ≤ Sb
  bW : B ≤ Wb
theorem Pt.lt {w : World} {Wb i : Nat} {e : One} (h : Pt w Wb i e) (b : Nat) (hb : e.Has b) : b < w.heap.size := by
  rcases hb with rfl | rfl | hb
  · exact h.bs.plt
  · exact h.bs.glt
  · exact (h.rs.row.lt b hb).2
theorem Pt.frame {w w' : World} {Wb i : Nat} {e : One} (h : Pt w Wb i e) (hW : w'.cell? ⟨Wb, i, none⟩ = w.cell? ⟨Wb, i, none⟩) (hb : ∀ b, e.Has b → w'.heap[b]? = w.heap[b]?) : Pt w' Wb i e :=
  ⟨h.bs.frame (hb _ (.inl rfl)) (hb _ (.inr (.inl rfl))), ⟨hW.trans h.rs.at_s, owns_frame h.rs.row (fun g hg => hb g (.inr (.inr hg))), h.rs.small⟩, h.inn⟩
theorem Pl.slt {B : Nat} {w : World} {Sb Wb k : Nat} {E : Nat → One} (h : Pl B w Sb Wb k E) : Sb < w.heap.size := by
  obtain ⟨v, hv⟩ := h.sc 0 (by omega)
  exact World.block_lt_of_cell? _ _ hv
theorem Pl.wlt {B : Nat} {w : World} {Sb Wb k : Nat} {E : Nat → One} (h : Pl B w Sb Wb k E) : Wb < w.heap.size := by
  obtain ⟨v, hv⟩ := h.wc 0 (by omega)
  exact World.block_lt_of_cell? _ _ hv
/-- nothing of it has turned -/
theorem Pl.frame {B : Nat} {w w' : World} {Sb Wb k : Nat} {E : Nat → One} (h : Pl B w Sb Wb k E) (hb : ∀ b, b < w.heap.size → w'.heap[b]? = w.heap[b]?) : Pl B w' Sb Wb k E := by
  have hs := hb Sb h.slt
  have hw := hb Wb h.wlt
  have cs : ∀ i, w'.cell? ⟨Sb, i, none⟩ = w.cell? ⟨Sb, i, none⟩ := fun i => World.cell?_of_block (a := ⟨Sb, i, none⟩) hs
  have cw : ∀ i, w'.cell? ⟨Wb, i, none⟩ = w.cell? ⟨Wb, i, none⟩ := fun i => World.cell?_of_block (a := ⟨Wb, i, none⟩) hw
  exact ⟨fun i hi => by rw [cs]; exact h.sc i hi, fun i hi => by rw [cw]; exact h.wc i hi, fun i => (World.frozen?_of_block (a := ⟨Sb, i, none⟩) hs).trans (h.sfz i), fun i => (World.frozen?_of_block (a := ⟨Wb, i, none⟩) hw).trans (h.wfz i),
    fun i hi => (cs i).trans (h.sets i hi), fun i hi => (h.pt i hi).frame (cw i) (fun b hb' => hb b ((h.pt i hi).lt b hb')), h.own, h.dis, h.sw, h.bS, h.bW⟩
theorem Pl.below {B : Nat} {w w' : World} {Sb Wb k : Nat} {E : Nat → One} (h : Pl B w Sb Wb k E) {B' : Nat} (hB : w.heap.size ≤ B') (hb : Below B' w w') : Pl B w' Sb Wb k E :=
  h.frame (fun b hlt => hb.block b (Nat.lt_of_lt_of_le hlt hB))
def upd (E : Nat → One) (i : Nat) (e : One) : Nat → One := fun j => if j = i then e else E j
theorem upd_same (E : Nat → One) (i : Nat) (e : One) : upd E i e i = e := if_pos rfl
theorem upd_other (E : Nat → One) (i j : Nat) (e : One) (h : j ≠ i) : upd E i e j = E j := if_neg h
/-- one block of number i has been written -/
theorem Pl.turned {B : Nat} {w w' : World} {Sb Wb k i r : Nat} {E : Nat → One} {e : One} (h : Pl B w Sb Wb k E) (hi : i < k) (hG : w.grownBy w' (some r)) (hr : (E i).Has r) (he : ∀ b, e.Has b → (E i).Has b) (hp : e.p = (E i).p) (hpt : Pt w' Wb i e) : Pl B w' Sb Wb k (upd E i e) := by
  obtain ⟨_, rS, rW⟩ := h.own i hi r hr
  have blk : ∀ b, b < w.heap.size → b ≠ r → w'.heap[b]? = w.heap[b]? := fun b hb hn => hG.block b hb (fun e => hn (by injection e))
  have hs := blk Sb h.slt (fun e => rS e.symm)
  have hw := blk Wb h.wlt (fun e => rW e.symm)
  have cs : ∀ i, w'.cell? ⟨Sb, i, none⟩ = w.cell? ⟨Sb, i, none⟩ := fun i => World.cell?_of_block (a := ⟨Sb, i, none⟩) hs
  have cw : ∀ i, w'.cell? ⟨Wb, i, none⟩ = w.cell? ⟨Wb, i, none⟩ := fun i => World.cell?_of_block (a := ⟨Wb, i, none⟩) hw
  refine ⟨fun i hi => by rw [cs]; exact h.sc i hi, fun i hi => by rw [cw]; exact h.wc i hi, fun i => (World.frozen?_of_block (a := ⟨Sb, i, none⟩) hs).trans (h.sfz i), fun i => (World.frozen?_of_block (a := ⟨Wb, i, none⟩) hw).trans (h.wfz i), ?_, ?_, ?_, ?_, h.sw, h.bS, h.bW⟩
  · intro j hj
    rw [cs, h.sets j hj]
    by_cases e1 : j = i
    · subst e1; rw [upd_same, hp]
    · rw [upd_other _ _ _ _ e1]
  · intro j hj
    by_cases e1 : j = i
    · subst e1; rw [upd_same]; exact hpt
    · rw [upd_other _ _ _ _ e1]
      exact (h.pt j hj).frame (cw j) (fun b hb => blk b ((h.pt j hj).lt b hb) (fun e2 => h.dis j i hj hi e1 b hb (e2 ▸ hr)))
  · intro j hj b hb
    by_cases e1 : j = i
    · subst e1; rw [upd_same] at hb; exact h.own j hj b (he b hb)
    · rw [upd_other _ _ _ _ e1] at hb; exact h.own j hj b hb
  · intro a b ha hb hab c hc hd
    by_cases e1 : a = i
    · subst e1
      rw [upd_same] at hc
      rw [upd_other _ _ _ _ (fun e => hab e.symm)] at hd
      exact h.dis a b ha hb hab c (he c hc) hd
    · rw [upd_other _ _ _ _ e1] at hc
      by_cases e2 : b = i
      · subst e2; rw [upd_same] at hd; exact h.dis a b ha hb hab c hc (he c hd)
      · rw [upd_other _ _ _ _ e2] at hd; exact h.dis a b ha hb hab c hc hd
/-- the program's set of number i has turned -/
theorem Pl.real {B : Nat} {w w' : World} {Sb Wb k i : Nat} {E : Nat → One} {C' : List Nat} (h : Pl B w Sb Wb k E) (hi : i < k) (hG : w.grownBy w' (some (E i).g)) (hbs : Bs w' (E i).p (E i).g (E i).n (E i).m C') : Pl B w' Sb Wb k (upd E i { E i with C := C' }) := by
  refine h.turned hi hG (.inr (.inl rfl)) (fun b hb => hb) rfl ⟨hbs, ?_, (h.pt i hi).inn⟩
  have hr := (h.pt i hi).rs
  have hWg : Wb ≠ (E i).g := fun e => (h.own i hi _ (.inr (.inl rfl))).2.2 e.symm
  refine ⟨(World.cell?_of_block (a := ⟨Wb, i, none⟩) (hG.block Wb h.wlt (fun e => hWg (by injection e)))).trans hr.at_s, owns_frame hr.row (fun b hb => hG.block b (hr.row.lt b hb).2 (fun e => ((h.pt i hi).inn b hb).2 (by injection e))), hr.small⟩
/-- the document's set of number i has turned -/
theorem Pl.ref {B : Nat} {w w' : World} {Sb Wb k i : Nat} {E : Nat → One} {T' : List Bool} (h : Pl B w Sb Wb k E) (hi : i < k) (hG : w.grownBy w' (E i).row) (hrow : w'.ownsRow 0 4 1 (.slice (E i).a (E i).n (E i).c) (E i).n (cellsB T')) : Pl B w' Sb Wb k (upd E i { E i with T := T' }) := by
  cases hr : (E i).row with
  | none =>
    rw [hr] at hG
    have hb : ∀ b, b < w.heap.size → w'.heap[b]? = w.heap[b]? := fun b hb => hG.block b hb (fun e => by cases e)
    have h2 := h.frame hb
    have h3 := h2.pt i hi
    refine ⟨h2.sc, h2.wc, h2.sfz, h2.wfz, ?_, ?_, ?_, ?_, h2.sw, h2.bS, h2.bW⟩
    · intro j hj
      rw [h2.sets j hj]
      by_cases e1 : j = i
      · subst e1; rw [upd_same]
      · rw [upd_other _ _ _ _ e1]
    · intro j hj
      by_cases e1 : j = i
      · subst e1; rw [upd_same]; exact ⟨h3.bs, ⟨h3.rs.at_s, hrow, h3.rs.small⟩, h3.inn⟩
      · rw [upd_other _ _ _ _ e1]; exact h2.pt j hj
    · intro j hj b hb
      by_cases e1 : j = i
      · subst e1; rw [upd_same] at hb; exact h.own j hj b hb
      · rw [upd_other _ _ _ _ e1] at hb; exact h.own j hj b hb
    · intro a b ha hb hab c hc hd
      by_cases e1 : a = i
      · subst e1
        rw [upd_same] at hc
        rw [upd_other _ _ _ _ (fun e => hab e.symm)] at hd
        exact h.dis a b ha hb hab c hc hd
      · rw [upd_other _ _ _ _ e1] at hc
        by_cases e2 : b = i
        · subst e2; rw [upd_same] at hd; exact h.dis a b ha hb hab c hc hd
        · rw [upd_other _ _ _ _ e2] at hd; exact h.dis a b ha hb hab c hc hd
  | some r =>
    rw [hr] at hG
    have h0 := h.pt i hi
    have hi3 := h0.inn r hr
    have hWr : Wb ≠ r := fun e => (h.own i hi r (.inr (.inr hr))).2.2 e.symm
    refine h.turned hi hG (.inr (.inr hr)) (fun b hb => hb) rfl ⟨h0.bs.frame (hG.block _ h0.bs.plt (fun e => hi3.1 (by injection e with e; exact e.symm))) (hG.block _ h0.bs.glt (fun e => hi3.2 (by injection e with e; exact e.symm))), ?_, h0.inn⟩
    exact ⟨(World.cell?_of_block (a := ⟨Wb, i, none⟩) (hG.block Wb h.wlt (fun e => hWr (by injection e)))).trans h0.rs.at_s, hrow, h0.rs.small⟩
end Go.Proofs.Ytholafecbmhhhaa.Dg
