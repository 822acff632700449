/- The document's Total, and ChkTotals. -/
import Derived.Test.YtgmnohfleadohaaSums
namespace Go.Proofs.Ytgmnohfleadohaa.Chk
open Go.RowKit
open Go.Proofs.Ytgmnohfleadohaa.Wd (nOf eOf Mg of_b plus_b told_nat field1 big64)
set_option linter.unusedVariables false

theorem outT_eq (n : Nat) : outT n = nOf n ∧ errT n = eOf n := by
  unfold outT errT nOf eOf
  by_cases h : n ≤ 9223372036854775807
  · rw [if_pos h, if_pos h, if_pos (by omega), if_pos (by omega)]; exact ⟨rfl, rfl⟩
  · rw [if_neg h, if_neg h, if_neg (by omega), if_neg (by omega)]; exact ⟨rfl, rfl⟩
theorem tot_bound (zs : List Int) (h : ∀ z ∈ zs, -9223372036854775808 ≤ z ∧ z ≤ 9223372036854775807) : tot zs ≤ zs.length * 9223372036854775808 := by
  induction zs with
  | nil => simp [tot]
  | cons z r ih =>
    have h1 := ih fun x hx => h x (List.mem_cons_of_mem _ hx)
    have h2 := h z List.mem_cons_self
    simp only [tot, List.length_cons]
    omega

set_option maxHeartbeats 1000000 in
theorem ref_total_none (a : Option Addr) (cap : Nat) (w : World) :
    Calls Try.prog 26 #[.slice a 0 cap] w fun e w' => e = .returned (.tuple #[.int .i64 (nOf 0), .int .i64 (eOf 0)]) ∧ Below w.heap.size w w' := by
  go_enter Try.func26, Try.ntmps26
  go_wp2_with (first
    | (go_at_call 29; refine (of_b _ _ (by omega) (by omega)).mono ?_; rintro e w1 ⟨b1, ro, lr, cr, rfl, Hb1, hR, hB1⟩; obtain rfl : b1 = false := Hb1.out))
  refine wp_loop_rounds 1 ?_
  rw [rounds_succ]
  go_wp2_with (first
    | (go_at_call 27; refine (told_nat 0 ro lr cr _ (hR.below (Nat.le_refl _) ((Below.refl _ _).alloc (Nat.le_refl _) _)) (by omega)).mono ?_; rintro e w4 ⟨rfl, hB4⟩))
  go_ret2
  exact ⟨rfl, (hB1.alloc hB1.size _).trans (hB4.mono (by have := hB1.size; simp; omega))⟩

theorem stored_two {w : World} {R : Nat} {a b u v : Value} (h0 : w.cell? ⟨R, 0, none⟩ = some a) (h1 : w.cell? ⟨R, 1, none⟩ = some b) (f0 : w.frozen? ⟨R, 0, none⟩ = false) (f1 : w.frozen? ⟨R, 1, none⟩ = false) :
    ((w.setCell ⟨R, 0, none⟩ u).setCell ⟨R, 1, none⟩ v).cell? ⟨R, 0, none⟩ = some u ∧ ((w.setCell ⟨R, 0, none⟩ u).setCell ⟨R, 1, none⟩ v).cell? ⟨R, 1, none⟩ = some v ∧
    ((w.setCell ⟨R, 0, none⟩ u).setCell ⟨R, 1, none⟩ v).frozen? ⟨R, 0, none⟩ = false ∧ ((w.setCell ⟨R, 0, none⟩ u).setCell ⟨R, 1, none⟩ v).frozen? ⟨R, 1, none⟩ = false ∧ ((w.setCell ⟨R, 0, none⟩ u).setCell ⟨R, 1, none⟩ v).heap.size = w.heap.size := by
  have e1 : (w.setCell ⟨R, 0, none⟩ u).cell? ⟨R, 1, none⟩ = some b := by
    rw [World.cell?_setCell_other]
    · exact h1
    · simp
  have e0 : (w.setCell ⟨R, 0, none⟩ u).cell? ⟨R, 0, none⟩ = some u := World.cell?_setCell_same _ _ _ h0
  refine ⟨?_, World.cell?_setCell_same _ _ _ e1, ?_, ?_, by simp⟩
  · rw [World.cell?_setCell_other]
    · exact e0
    · simp
  · simpa using f0
  · simpa using f1

set_option maxHeartbeats 4000000 in
theorem ref_total_row (b off : Nat) (zs : List Int) (len cap : Nat) (w : World) (hz : Hid (zs.length = len)) (hlen : len * 8 ≤ 140737488351232)
    (hc : Hid (∀ i, i < len → w.cell? ⟨b, off + i, none⟩ = some (.int .i64 (zs.getD i 0)))) (hb : Hid (∀ z ∈ zs, -9223372036854775808 ≤ z ∧ z ≤ 9223372036854775807)) :
    Calls Try.prog 26 #[.slice (some ⟨b, off, none⟩) len cap] w fun e w' => e = .returned (.tuple #[.int .i64 (nOf (tot zs : Nat)), .int .i64 (eOf (tot zs : Nat))]) ∧ Below w.heap.size w w' := by
  have hf1 := field1
  go_enter Try.func26, Try.ntmps26
  go_wp2_with (first
    | (go_at_call 29; refine (of_b _ _ (by omega) (by omega)).mono ?_; rintro e w1 ⟨b1, ro, lr, cr, rfl, Hb1, hR, hB1⟩; obtain rfl : b1 = false := Hb1.out))
  go_loopw [5] (fun i wr => ∃ (k : Nat) (ro : Option Addr) (lr cr : Nat), k ≤ len ∧ i = .int .i64 k ∧ wr.cell? ⟨w1.heap.size, 0, none⟩ = some (.bool false) ∧ wr.cell? ⟨w1.heap.size, 1, none⟩ = some (.slice ro lr cr) ∧
      wr.frozen? ⟨w1.heap.size, 0, none⟩ = false ∧ wr.frozen? ⟨w1.heap.size, 1, none⟩ = false ∧ Mg wr ro lr cr (tot (zs.take k)) ∧ Below w.heap.size w wr ∧ w1.heap.size < wr.heap.size) (fun i _ => len - (intOf i).toNat)
  case atStart =>
    have c := Wd.cell_two w1 _ rfl (.bool false) (.slice ro lr cr) 42
    have f := Wd.free_two w1 _ rfl (.bool false) (.slice ro lr cr) 42
    exact ⟨0, ro, lr, cr, Nat.zero_le _, rfl, c.1, c.2, f.1, f.2, hR.below (Nat.le_refl _) ((Below.refl _ _).alloc (Nat.le_refl _) _), hB1.alloc hB1.size _, by simp⟩
  case round =>
    obtain ⟨k, ro, lr, cr, hk, rfl, c0, c1, f0, f1, hM, hnx, hsz⟩ := hrel
    have hs1 := hB1.size
    by_cases hlt : k < len
    · have hcell : wr.cell? ⟨b, off + k, none⟩ = some (.int .i64 (zs.getD k 0)) := by
        have h := hc.out k hlt
        rw [hnx.cell (World.block_lt_of_cell? _ _ h), h]
      have hmem : zs.getD k 0 ∈ zs := by rw [List.getD_eq_getElem?_getD, List.getElem?_eq_getElem (by rw [hz.out]; exact hlt)]; simp
      have hzb := hb.out _ hmem
      have HS : Hid (tot (zs.take (k + 1)) = tot (zs.take k) + (zs.getD k 0).natAbs) := tot_take zs k (by rw [hz.out]; exact hlt)
      have HT : Hid (tot (zs.take k) ≤ len * 9223372036854775808) := by
        have h1 := tot_le zs k
        have h2 := tot_bound zs hb.out
        rw [hz.out] at h2
        exact Nat.le_trans h1 h2
      obtain ⟨z, hze⟩ : ∃ z, zs.getD k 0 = z := ⟨_, rfl⟩
      rw [hze] at hcell hzb HS
      clear hze hmem
      obtain ⟨t, hte⟩ : ∃ t : Nat, tot (zs.take k) = t := ⟨_, rfl⟩
      rw [hte] at hM HS HT
      clear hte
      obtain ⟨l0, u0⟩ := hzb
      have hkeep : Hid (∀ w', Below wr.heap.size wr w' → w'.cell? ⟨w1.heap.size, 0, none⟩ = some (.bool false) ∧ w'.cell? ⟨w1.heap.size, 1, none⟩ = some (.slice ro lr cr) ∧ w'.cell? ⟨b, off + k, none⟩ = some (.int .i64 z) ∧ w'.frozen? ⟨w1.heap.size, 0, none⟩ = false ∧ w'.frozen? ⟨w1.heap.size, 1, none⟩ = false) := fun w' h =>
        ⟨(h.cell hsz).trans c0, (h.cell hsz).trans c1, (h.cell (World.block_lt_of_cell? _ _ hcell)).trans hcell, (h.frozen hsz).trans f0, (h.frozen hsz).trans f1⟩
      have hT := HT.out
      go_wp2
      go_region_with (first
        | (go_at_call 28; refine (plus_b (t : Int) (z.natAbs : Int) (t + z.natAbs : Nat) false false ro ro2 lr cr lr2 cr2 _ (by simp) (by simp) (hM.below (Nat.le_refl _) hW2) hR2 (by omega) (big64 _ (by omega))).mono ?_; rintro e w3 ⟨b3, ro3, lr3, cr3, rfl, Hb3, hR3, hB3⟩; obtain rfl : b3 = false := (Hb3.out.trans (decide_eq_false (by omega))); have hW3 := hW2.trans (hB3.mono hW2.size); obtain ⟨r0, r1, r2, r3, r4⟩ := hkeep.out _ hW3)
        | (go_at_call 29; refine (of_b z _ l0 u0).mono ?_; rintro e w2 ⟨b2, ro2, lr2, cr2, rfl, Hb2, hR2, hB2⟩; have hW2 := ((Below.refl wr.heap.size wr).drew).trans hB2; obtain ⟨q0, q1, q2, q3, q4⟩ := hkeep.out _ hW2))
      all_goals
        go_wp2
        go_roundw
        case rel =>
          go_light
          have st := stored_two (u := .bool false) (v := .slice ro3 lr3 cr3) r0 r1 r3 r4
          rw [Int.natAbs_natCast] at hR3
          exact ⟨k + 1, ro3, lr3, cr3, by omega, by go_num, st.1, st.2.1, st.2.2.1, st.2.2.2.1, by rw [HS.out]; exact Mg.stored hR3 r0 r1 _, Wd.two_below (hnx.trans (hW3.mono hnx.size)) hs1 _ _, by rw [st.2.2.2.2]; exact Nat.lt_of_lt_of_le hsz hW3.size⟩
        case measure => simp [intOf]; omega
    · have hkl : zs.take k = zs := List.take_of_length_le (by rw [hz.out]; omega)
      rw [hkl] at hM
      have HB : Hid (tot zs < 340282366920938463463374607431768211456) := by
        have h2 := tot_bound zs hb.out
        rw [hz.out] at h2
        show tot zs < _
        omega
      clear hkl
      go_wp2_with (go_at_call 27; refine (told_nat (tot zs) ro lr cr _ hM HB.out).mono ?_; rintro e w4 ⟨rfl, hB4⟩)
      go_ret2
      exact ⟨rfl, hnx.trans (hB4.mono hnx.size)⟩

theorem ref_total (v : Value) (zs : List Int) (w : World) (h : Row w v zs) (hlen : zs.length * 8 ≤ 140737488351232) :
    Calls Try.prog 26 #[v] w fun e w' => e = .returned (.tuple #[.int .i64 (outT (tot zs)), .int .i64 (errT (tot zs))]) ∧ Below w.heap.size w w' := by
  obtain ⟨e1, e2⟩ := outT_eq (tot zs)
  rw [e1, e2]
  obtain ⟨ao, cap, rfl, hm, hc, hw⟩ := h
  by_cases h0 : 0 < zs.length
  · obtain ⟨b, off, rfl, hc'⟩ := hc h0
    refine ref_total_row b off zs zs.length cap w rfl hlen hc' ?_
    intro z hz
    simpa [Lit.wf, IntKind.min, IntKind.max, IntKind.signed, IntKind.bits] using hw z hz
  · have e : zs = [] := List.length_eq_zero_iff.1 (by omega)
    subst e
    exact ref_total_none ao cap w
end Go.Proofs.Ytgmnohfleadohaa.Chk
