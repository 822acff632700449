/- The program's rests. -/
import Derived.Test.YtiapkblebbcfbaaGreatNmN
namespace Go.Proofs.YtiapkblebbcfbaaGreat.Gl
open Go.RowKit
set_option linter.unusedVariables false
set_option linter.unusedSimpArgs false

theorem front_get (us zs : List Int) (k : Nat) (h : us.length = zs.length) (hk : k < zs.length) : (front us zs k).getD k 0 = zs.getD k 0 := by
  unfold front
  rw [List.getD_eq_getElem?_getD, List.getElem?_append_right (by simp; omega), List.length_take, Nat.min_eq_left (by omega), Nat.sub_self, List.getElem?_drop, List.getD_eq_getElem?_getD, Nat.add_zero]
theorem nbut_drew {b : Nat} {w w' : World} (h : Bux b w w') : Bux b w w'.drew := ⟨h.os, h.tape, h.output, h.size, h.block⟩
theorem bux_bal {b : Nat} {w w' : World} (h : Bux b w w') (o : Obj) : Bux b w (w'.alloc o) := h.trans (Bux.of (bal w' o))
theorem owns_st4 {w : World} {base : Nat} {t : TypeId} {v : Value} {n X : Nat} {xs : List Value} (h : w.ownsRow base t 1 v n xs) (hne : ∀ g, v.ownBlock = some g → g ≠ X) (v0 v1 v2 v3 : Value) : (st4 w X v0 v1 v2 v3).ownsRow base t 1 v n xs := owns_other (owns_st3 h hne v0 v1 v2) hne 3 v3
abbrev zN : Array Value := #[.int .i64 0, .slice none 0 0, .slice none 0 0, .int .i64 0, .int .i64 0]
set_option maxRecDepth 100000 in
set_option maxHeartbeats 4000000 in
theorem rests_at (B k b md : Int) (Bn : Nat) (no : Option Addr) (n c o d g : Nat) (zs : List Int) (w : World) (hO : w.ownsRow Bn 2 1 (.slice (some ⟨g, 0, none⟩) o d) o (cellsZ zs)) (hz : ∀ z ∈ zs, I64 z) (hb : I64 b) (hm : 1 ≤ md) (hm' : md ≤ 9223372036854775807) (ho : o ≤ 100000) (hg : g < w.heap.size) :
    Calls Tryz.prog 22 #[nrV k b md no (some ⟨g, 0, none⟩) n c o d] w fun e w' => e = .returned (nrV k (b % md) md no (some ⟨g, 0, none⟩) n c o d) ∧ w'.ownsRow Bn 2 1 (.slice (some ⟨g, 0, none⟩) o d) o (cellsZ (zs.map (fun z => z % md))) ∧ Bux g w w' := by
  have hl : zs.length = o := by have := hO.1; simpa using this
  have hR1 := rb_new w (nrA k b md no (some ⟨g, 0, none⟩) n c o d) 44
  have hX1 := bux_bal (Bux.refl g w) (.cells (nrA k b md no (some ⟨g, 0, none⟩) n c o d) 44)
  have hO1 := owns_below hO (bal w (.cells (nrA k b md no (some ⟨g, 0, none⟩) n c o d) 44))
  generalize hw1 : w.alloc (.cells (nrA k b md no (some ⟨g, 0, none⟩) n c o d) 44) = w1 at hR1 hX1 hO1
  have hs1 : w1.heap.size = w.heap.size + 1 := by rw [← hw1]; simp
  have hR2 := rb_new w1 zN 44
  have hX2 := bux_bal hX1 (.cells zN 44)
  have hO2 := owns_below hO1 (bal w1 (.cells zN 44))
  have hR12 := hR1.keep (bal w1 (.cells zN 44))
  generalize hw2 : w1.alloc (.cells zN 44) = w2 at hR2 hX2 hO2 hR12
  rw [hs1] at hR2
  have HW : Hid ((w.alloc (.cells (nrA k b md no (some ⟨g, 0, none⟩) n c o d) 44)).alloc (.cells zN 44) = w2) := by rw [hw1, hw2]; exact rfl
  have hdc := hO.2
  have hcap : o ≤ d ∧ d ≤ 9223372036854775807 := by
    obtain ⟨ro, cr, e, hR⟩ := rdz_of_owns hO
    cases e
    exact ⟨hR.lecap, hR.lemax⟩
  have HL := mkHid hl
  have HZ := mkHid hz
  have hgn : w.heap.size ≠ g := by omega
  have hgn1 : w.heap.size + 1 ≠ g := by omega
  clear hw1 hw2 hs1 hR1 hX1 hO1 hO hl hz hdc
  go_enter Tryz.func22, Tryz.ntmps22
  go_wp2_with (fail)
  have eW := HW.out
  unfold zN at eW
  rw [eW]
  clear eW HW
  go_loopw [8] (fun i wr => ∃ j : Nat, j ≤ o ∧ i = .int .i64 j ∧ wr.ownsRow Bn 2 1 (.slice (some ⟨g, 0, none⟩) o d) o (cellsZ (front (zs.map (fun z => z % md)) zs j)) ∧ Bux g w2 wr) (fun i _ => o - (intOf i).toNat)
  case atStart => exact ⟨0, Nat.zero_le _, rfl, by rw [front_zero]; exact hO2, Bux.refl _ _⟩
  case round =>
    obtain ⟨j, hj, rfl, hO, hXr⟩ := hrel
    have hd1 := hR12.but hXr hgn
    have hd2 := hR2.but hXr hgn1
    by_cases hlt : j < o
    · have hoc := ownsZ_cell hO j hlt
      have hof := hO.frozenAt j
      rw [front_get _ _ _ (by simp) (by rw [HL.out]; exact hlt)] at hoc
      have hzj : I64 (zs.getD j 0) := HZ.out _ (by rw [getD_of (by rw [HL.out]; exact hlt)]; exact List.getElem_mem _)
      have hus : (zs.map (fun z => z % md)).getD j 0 = zs.getD j 0 % md := by
        rw [getD_of (show j < (zs.map (fun z => z % md)).length by rw [List.length_map, HL.out]; exact hlt), getD_of (show j < zs.length by rw [HL.out]; exact hlt)]
        simp
      have HST := mkHid (hO.stored j (.int .i64 (zs.getD j 0 % md))).1
      rw [cells_set, ← hus, front_set _ _ _ (by simp) (by rw [List.length_map, HL.out]; exact hlt), hus] at HST
      have hXs := mkHid (hXr.set j (.int .i64 (zs.getD j 0 % md)))
      have RC := mkHid (Chk.rest_ok (zs.getD j 0) md wr.drew hzj.1 hzj.2 hm hm')
      clear hus
      generalize zs.getD j 0 = z at hoc hzj HST hXs RC
      obtain ⟨a2, -⟩ := txcell hd1 2 _ rfl
      obtain ⟨a4, -⟩ := txcell hd1 4 _ rfl
      go_wp2_with (fail)
      go_region_with (go_at_call 43; refine RC.out.mono ?_; rintro e w' ⟨rfl, rfl⟩)
      all_goals
        go_wp2
        go_roundw
        case rel => exact ⟨j + 1, by omega, by go_num, owns_below HST.out (Below.refl _ _).drew, nbut_drew hXs.out⟩
        case measure => simp [intOf]; omega
    · obtain rfl : j = o := by omega
      rw [front_all _ _ j (by rw [List.length_map]; exact HL.out) HL.out] at hO
      have RC := mkHid (Chk.rest_ok b md wr hb.1 hb.2 hm hm')
      have hR3 : Rb (wr.setCell ⟨w.heap.size, 3, none⟩ (.int .i64 (b % md))) w.heap.size (nrA k (b % md) md no (some ⟨g, 0, none⟩) n c j d) 44 := tx_set hd1 3 (.int .i64 (b % md))
      have hR4 := hd2.other (X := w.heap.size) (by omega) 3 (.int .i64 (b % md))
      have hR5 := rb_five hR4 rfl (.int .i64 k) (.slice no n c) (.slice (some ⟨g, 0, none⟩) j d) (.int .i64 (b % md)) (.int .i64 md)
      have hX9 : Hid (Bux g w (st5 (wr.setCell ⟨w.heap.size, 3, none⟩ (.int .i64 (b % md))) (w.heap.size + 1) (.int .i64 k) (.slice no n c) (.slice (some ⟨g, 0, none⟩) j d) (.int .i64 (b % md)) (.int .i64 md))) := but_new (Bux.st4 (but_new (hX2.trans hXr) (Nat.le_refl _) 3 _) (by omega) _ _ _ _) (by omega) 4 _
      have hO9 : Hid ((st5 (wr.setCell ⟨w.heap.size, 3, none⟩ (.int .i64 (b % md))) (w.heap.size + 1) (.int .i64 k) (.slice no n c) (.slice (some ⟨g, 0, none⟩) j d) (.int .i64 (b % md)) (.int .i64 md)).ownsRow Bn 2 1 (.slice (some ⟨g, 0, none⟩) j d) j (cellsZ (zs.map (fun z => z % md)))) := by
        have h1 := owns_other (X := w.heap.size) hO (fun q e => by cases e; exact fun h => hgn h.symm) 3 (.int .i64 (b % md))
        have hne : ∀ q, (Value.slice (some ⟨g, 0, none⟩) j d).ownBlock = some q → q ≠ w.heap.size + 1 := fun q e => by cases e; exact fun h => hgn1 h.symm
        exact owns_other (owns_st4 h1 hne _ _ _ _) hne 4 _
      obtain ⟨a3, b3⟩ := txcell hd1 3 _ rfl
      obtain ⟨a4, -⟩ := txcell hd1 4 _ rfl
      obtain ⟨f0, -⟩ := txcell hR3 0 _ rfl
      obtain ⟨f1, -⟩ := txcell hR3 1 _ rfl
      obtain ⟨f2, -⟩ := txcell hR3 2 _ rfl
      obtain ⟨f3, -⟩ := txcell hR3 3 _ rfl
      obtain ⟨f4, -⟩ := txcell hR3 4 _ rfl
      obtain ⟨t0, s0⟩ := txcell hR4 0 _ rfl
      obtain ⟨t1, s1⟩ := txcell hR4 1 _ rfl
      obtain ⟨t2, s2⟩ := txcell hR4 2 _ rfl
      obtain ⟨t3, s3⟩ := txcell hR4 3 _ rfl
      obtain ⟨t4, s4⟩ := txcell hR4 4 _ rfl
      clear hO HL HZ hXr hX2
      go_wp2_with (fail)
      refine RC.out.mono ?_
      rintro e w' ⟨rfl, rfl⟩
      go_wp2_with (fail)
      obtain ⟨k0, -⟩ := txcell hR5 0 _ rfl
      obtain ⟨k1, -⟩ := txcell hR5 1 _ rfl
      obtain ⟨k2, -⟩ := txcell hR5 2 _ rfl
      obtain ⟨k3, -⟩ := txcell hR5 3 _ rfl
      obtain ⟨k4, -⟩ := txcell hR5 4 _ rfl
      exact bodyPost_ret (v := nrV k (b % md) md no (some ⟨g, 0, none⟩) n c j d) (by simp [results, Tryz.results22, go_sem, k0, k1, k2, k3, k4]) rfl ⟨rfl, hO9.out, hX9.out⟩
end Go.Proofs.YtiapkblebbcfbaaGreat.Gl
