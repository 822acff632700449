/- Three sets beside three: the law's own alike; a set put in another's place. -/
import Derived.Test.YtholafecbmhhhaaPlayB
import Derived.Deep.RegionHeld3
namespace Go.Proofs.Ytholafecbmhhhaa.Dg
open Go.RowKit
set_option linter.unusedVariables false

theorem Pl.put {B : Nat} {w : World} {Sb Wb k k' i : Nat} {E : Nat → One} {e : One} (h : Pl B w Sb Wb k E) (hi : i < 3) (hk : ∀ j, j < k' → j = i ∨ j < k) (bs : Bs w e.p e.g e.n e.m e.C) (row : w.ownsRow 0 4 1 (.slice e.a e.n e.c) e.n (cellsB e.T)) (small : e.n ≤ 4096)
    (inn : ∀ b, e.row = some b → b ≠ e.p ∧ b ≠ e.g) (fresh : ∀ b, e.Has b → B ≤ b ∧ b ≠ Sb ∧ b ≠ Wb ∧ ∀ j, j < k → j ≠ i → ¬ (E j).Has b) :
    Pl B ((w.setCell ⟨Sb, i, none⟩ (at_p e.p)).setCell ⟨Wb, i, none⟩ (.slice e.a e.n e.c)) Sb Wb k' (upd E i e) := by
  have blk : ∀ b, b ≠ Sb → b ≠ Wb → ((w.setCell ⟨Sb, i, none⟩ (at_p e.p)).setCell ⟨Wb, i, none⟩ (.slice e.a e.n e.c)).heap[b]? = w.heap[b]? := fun b h1 h2 =>
    (Below.heap_setCell _ _ _ _ h2).trans (Below.heap_setCell _ _ _ _ h1)
  obtain ⟨vs, hvs⟩ := h.sc i hi
  obtain ⟨vw, hvw⟩ := h.wc i hi
  have hS : ∀ j, ((w.setCell ⟨Sb, i, none⟩ (at_p e.p)).setCell ⟨Wb, i, none⟩ (.slice e.a e.n e.c)).cell? ⟨Sb, j, none⟩ = if j = i then some (at_p e.p) else w.cell? ⟨Sb, j, none⟩ := fun j => by
    rw [World.cell?_setCell_other _ _ _ _ (fun e1 => h.sw (by simp only [Addr.mk.injEq] at e1; exact e1.1.symm))]
    by_cases e1 : j = i
    · subst e1; rw [if_pos rfl, World.cell?_setCell_same _ _ _ hvs]
    · rw [if_neg e1, World.cell?_setCell_other _ _ _ _ (fun e2 => e1 (by simp only [Addr.mk.injEq, true_and, and_true] at e2; exact e2.symm))]
  have hvw' : (w.setCell ⟨Sb, i, none⟩ (at_p e.p)).cell? ⟨Wb, i, none⟩ = some vw := by
    rw [World.cell?_setCell_other _ _ _ _ (fun e1 => h.sw (by simp only [Addr.mk.injEq] at e1; exact e1.1))]; exact hvw
  have hW : ∀ j, ((w.setCell ⟨Sb, i, none⟩ (at_p e.p)).setCell ⟨Wb, i, none⟩ (.slice e.a e.n e.c)).cell? ⟨Wb, j, none⟩ = if j = i then some (.slice e.a e.n e.c) else w.cell? ⟨Wb, j, none⟩ := fun j => by
    by_cases e1 : j = i
    · subst e1; rw [if_pos rfl, World.cell?_setCell_same _ _ _ hvw']
    · rw [if_neg e1, World.cell?_setCell_other _ _ _ _ (fun e2 => e1 (by simp only [Addr.mk.injEq, true_and, and_true] at e2; exact e2.symm)), World.cell?_setCell_other _ _ _ _ (fun e1 => h.sw (by simp only [Addr.mk.injEq] at e1; exact e1.1))]
  refine ⟨?_, ?_, fun j => by simp [h.sfz], fun j => by simp [h.wfz], ?_, ?_, ?_, ?_, h.sw, h.bS, h.bW⟩
  · intro j hj
    rw [hS]
    by_cases e1 : j = i
    · rw [if_pos e1]; exact ⟨_, rfl⟩
    · rw [if_neg e1]; exact h.sc j hj
  · intro j hj
    rw [hW]
    by_cases e1 : j = i
    · rw [if_pos e1]; exact ⟨_, rfl⟩
    · rw [if_neg e1]; exact h.wc j hj
  · intro j hj
    rw [hS]
    by_cases e1 : j = i
    · rw [if_pos e1, e1, upd_same]
    · rw [if_neg e1, upd_other _ _ _ _ e1]
      exact h.sets j ((hk j hj).resolve_left e1)
  · intro j hj
    by_cases e1 : j = i
    · subst e1
      rw [upd_same]
      have fb := fun b hb => blk b (fresh b hb).2.1 (fresh b hb).2.2.1
      refine ⟨bs.frame (fb _ (.inl rfl)) (fb _ (.inr (.inl rfl))), ⟨by rw [hW, if_pos rfl], owns_frame row (fun b hb => fb b (.inr (.inr hb))), small⟩, inn⟩
    · rw [upd_other _ _ _ _ e1]
      have hjk := (hk j hj).resolve_left e1
      exact (h.pt j hjk).frame (by rw [hW, if_neg e1]) (fun b hb => blk b (h.own j hjk b hb).2.1 (h.own j hjk b hb).2.2)
  · intro j hj b hb
    by_cases e1 : j = i
    · subst e1; rw [upd_same] at hb; exact ⟨(fresh b hb).1, (fresh b hb).2.1, (fresh b hb).2.2.1⟩
    · rw [upd_other _ _ _ _ e1] at hb; exact h.own j ((hk j hj).resolve_left e1) b hb
  · intro a b ha hb hab c hc hd
    by_cases e1 : a = i
    · subst e1
      rw [upd_same] at hc
      have hba : b ≠ a := fun e => hab e.symm
      rw [upd_other _ _ _ _ hba] at hd
      exact (fresh c hc).2.2.2 b ((hk b hb).resolve_left hba) hba hd
    · rw [upd_other _ _ _ _ e1] at hc
      have hak := (hk a ha).resolve_left e1
      by_cases e2 : b = i
      · subst e2; rw [upd_same] at hd; exact (fresh c hd).2.2.2 a hak e1 hc
      · rw [upd_other _ _ _ _ e2] at hd; exact h.dis a b hak ((hk b hb).resolve_left e2) hab c hc hd

set_option maxHeartbeats 2000000 in
theorem alike_at (p g n m : Nat) (C : List Nat) (Wb i : Nat) (a : Option Addr) (c : Nat) (T : List Bool) (w : World) (h : Bs w p g n m C) (k : Rs w ⟨Wb, i, none⟩ a n c T) (hT : T = bools C n) :
    Calls Try.prog 26 #[at_p p, .pointer (some ⟨Wb, i, none⟩)] w fun e w' => e = .returned (.bool true) ∧ Below w.heap.size w w' := by
  subst hT
  obtain ⟨q, hq⟩ : ∃ q, (lst (bools C n) n).length = q := ⟨_, rfl⟩
  obtain ⟨Z, hZ⟩ : ∃ Z : List Int, (lst (bools C n) n).map (fun d : Nat => (d : Int)) = Z := ⟨_, rfl⟩
  have hql : q ≤ n := by rw [← hq]; exact lst_length _ _
  have hn := h.small
  have L1 : Hid (∀ w, Rs w ⟨Wb, i, none⟩ a n c (bools C n) → Calls Try.prog 46 #[.pointer (some ⟨Wb, i, none⟩)] w fun e w' => ∃ ro rc, e = .returned (.slice ro q rc) ∧ w'.ownsRow w.heap.size 3 1 (.slice ro q rc) q (cellsZ Z) ∧ Below w.heap.size w w') := fun w h => by
    refine (list_at Wb i a n c (bools C n) w h).mono ?_
    rintro e w' ⟨v, rfl, ho, hB⟩
    rw [hq] at ho
    obtain ⟨ro, rc, rfl⟩ := owns_slice ho
    exact ⟨ro, rc, rfl, by rw [← hZ, cellsZ, List.map_map]; exact ho, hB⟩
  have L2 : Hid (∀ w, Bs w p g n m C → Calls Try.prog 29 #[at_p p] w fun e w' => ∃ ro rc, e = .returned (.slice ro q rc) ∧ w'.ownsRow w.heap.size 3 1 (.slice ro q rc) q (cellsZ Z) ∧ Below w.heap.size w w') := fun w h => by
    refine (blist_at p g n m C w h).mono ?_
    rintro e w' ⟨v, rfl, ho, hB⟩
    rw [hq] at ho
    obtain ⟨ro, rc, rfl⟩ := owns_slice ho
    exact ⟨ro, rc, rfl, by rw [← hZ, cellsZ, List.map_map]; exact ho, hB⟩
  have CN : Hid (∀ w, Bs w p g n m C → Calls Try.prog 42 #[at_p p] w fun e w' => e = .returned (.int .i64 (q : Int)) ∧ w = w') := fun w h => by
    have := count_at p g n m C w h
    rwa [hq] at this
  clear hq hZ
  have RS : Hid (Rs w ⟨Wb, i, none⟩ a n c (bools C n)) := k
  clear k
  go_enter Try.func26, Try.ntmps26
  go_wp2_with (go_at_call 46; refine (L1.out _ RS.out).mono ?_; rintro e w1 ⟨r1, c1, rfl, ho1, hB1⟩; have hS1 := h.below (Nat.le_refl _) hB1; have hc1 := below_cell hB1 RS.out.at_s; have hd1 := hB1.drew; have hSd := hS1.below (Nat.le_refl _) (Below.refl w1.heap.size w1).drew; have hod := ho1.drew)
  go_region_held3 (fun w' => w'.cell? ⟨Wb, i, none⟩ = some (.slice a n c)) (first | exact hc1 | exact hc2 | exact hc3)
    (first
      | (go_at_call 47; refine (size_at p g n m C _ hSd).mono ?_; rintro e w' ⟨rfl, rfl⟩)
      | (go_at_call 42; refine (CN.out _ hSd).mono ?_; rintro e w' ⟨rfl, rfl⟩)
      | (go_at_call 29; refine (L2.out _ hSd).mono ?_; rintro e w2 ⟨r2, c2, rfl, ho2, hB2⟩; have hW2 := hd1.trans (hB2.mono hd1.size); have hc2 := below_cell hB2 (show w1.drew.cell? ⟨Wb, i, none⟩ = some (.slice a n c) from hc1); have hO2 := owns_frame hod (fun b hb => hB2.block b (hod.lt b hb).2))
      | (go_at_call 30; refine (ints_at r2 r1 q c2 q c1 Z Z true _ (rdz_own ho2) (rdz_own hO2) ⟨fun _ => rfl, fun _ => rfl⟩).mono ?_; rintro e w3 ⟨rfl, hB3⟩; have hW3 := hW2.trans (hB3.mono hW2.size); have hc3 := below_cell hB3 hc2))
  go_wp2
  go_ret
  exact ⟨rfl, hW3⟩
end Go.Proofs.Ytholafecbmhhhaa.Dg
