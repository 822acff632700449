/- The document's Total, and ChkTotals. -/
import Derived.Test.YtiapkblebbcfbaaGreatSums
import Derived.Test.YtiapkblebbcfbaaGreatNmN
import Derived.Test.YtiapkblebbcfbaaGreatPsE
import Derived.Test.YtiapkblebbcfbaaGreatGlI
import Derived.Deep.DeepCutAuto
import Derived.Deep.LoopGhost
import Derived.Deep.DrawnRows
import Derived.Test.YtiapkblebbcfbaaGreatProducts
import Derived.Test.YtiapkblebbcfbaaGreatNmCj
namespace Go.Proofs.YtiapkblebbcfbaaGreat.Chk
open Go.RowKit
open Go.Proofs.YtiapkblebbcfbaaGreat.Wd (nOf eOf Mg of_b plus_b told_nat field1 big64)
set_option linter.unusedVariables false

theorem outT_eq (n : Nat) : outT n = nOf n ∧ errT n = eOf n := by
  unfold outT errT nOf eOf
  by_cases h : n ≤ 9223372036854775807
  · rw [if_pos h, if_pos h, if_pos (by omega), if_pos (by omega)]; exact ⟨rfl, rfl⟩
  · rw [if_neg h, if_neg h, if_neg (by omega), if_neg (by omega)]; exact ⟨rfl, rfl⟩
theorem tot_bound (zs : List Int) (h : ∀ z ∈ zs, -9223372036854775808 ≤ z ∧ z ≤ 9223372036854775807) : tot zs ≤ zs.length * 9223372036854775808 := by
  induction zs with
  | nil => simp [tot]
  | cons z r ih =>
    have h1 := ih fun x hx => h x (List.mem_cons_of_mem _ hx)
    have h2 := h z List.mem_cons_self
    simp only [tot, List.length_cons]
    omega

set_option maxHeartbeats 1000000 in
theorem ref_total_none (a : Option Addr) (cap : Nat) (w : World) :
    Calls Tryz.prog 29 #[.slice a 0 cap] w fun e w' => e = .returned (.tuple #[.int .i64 (nOf 0), .int .i64 (eOf 0)]) ∧ Below w.heap.size w w' := by
  go_enter Tryz.func29, Tryz.ntmps29
  go_wp2_with (first
    | (go_at_call 51; refine (of_b _ _ (by omega) (by omega)).mono ?_; rintro e w1 ⟨b1, ro, lr, cr, rfl, Hb1, hR, hB1⟩; obtain rfl : b1 = false := Hb1.out))
  refine wp_loop_rounds 1 ?_
  rw [rounds_succ]
  go_wp2_with (first
    | (go_at_call 49; refine (told_nat 0 ro lr cr _ (hR.below (Nat.le_refl _) ((Below.refl _ _).alloc (Nat.le_refl _) _)) (by omega)).mono ?_; rintro e w4 ⟨rfl, hB4⟩))
  go_ret2
  exact ⟨rfl, (hB1.alloc hB1.size _).trans (hB4.mono (by have := hB1.size; simp; omega))⟩

theorem stored_two {w : World} {R : Nat} {a b u v : Value} (h0 : w.cell? ⟨R, 0, none⟩ = some a) (h1 : w.cell? ⟨R, 1, none⟩ = some b) (f0 : w.frozen? ⟨R, 0, none⟩ = false) (f1 : w.frozen? ⟨R, 1, none⟩ = false) :
    ((w.setCell ⟨R, 0, none⟩ u).setCell ⟨R, 1, none⟩ v).cell? ⟨R, 0, none⟩ = some u ∧ ((w.setCell ⟨R, 0, none⟩ u).setCell ⟨R, 1, none⟩ v).cell? ⟨R, 1, none⟩ = some v ∧
    ((w.setCell ⟨R, 0, none⟩ u).setCell ⟨R, 1, none⟩ v).frozen? ⟨R, 0, none⟩ = false ∧ ((w.setCell ⟨R, 0, none⟩ u).setCell ⟨R, 1, none⟩ v).frozen? ⟨R, 1, none⟩ = false ∧ ((w.setCell ⟨R, 0, none⟩ u).setCell ⟨R, 1, none⟩ v).heap.size = w.heap.size := by
  have e1 : (w.setCell ⟨R, 0, none⟩ u).cell? ⟨R, 1, none⟩ = some b := by
    rw [World.cell?_setCell_other]
    · exact h1
    · simp
  have e0 : (w.setCell ⟨R, 0, none⟩ u).cell? ⟨R, 0, none⟩ = some u := World.cell?_setCell_same _ _ _ h0
  refine ⟨?_, World.cell?_setCell_same _ _ _ e1, ?_, ?_, by simp⟩
  · rw [World.cell?_setCell_other]
    · exact e0
    · simp
  · simpa using f0
  · simpa using f1

set_option maxHeartbeats 4000000 in
theorem ref_total_row (b off : Nat) (zs : List Int) (len cap : Nat) (w : World) (hz : Hid (zs.length = len)) (hlen : len * 8 ≤ 140737488351232)
    (hc : Hid (∀ i, i < len → w.cell? ⟨b, off + i, none⟩ = some (.int .i64 (zs.getD i 0)))) (hb : Hid (∀ z ∈ zs, -9223372036854775808 ≤ z ∧ z ≤ 9223372036854775807)) :
    Calls Tryz.prog 29 #[.slice (some ⟨b, off, none⟩) len cap] w fun e w' => e = .returned (.tuple #[.int .i64 (nOf (tot zs : Nat)), .int .i64 (eOf (tot zs : Nat))]) ∧ Below w.heap.size w w' := by
  have hf1 := field1
  go_enter Tryz.func29, Tryz.ntmps29
  go_wp2_with (first
    | (go_at_call 51; refine (of_b _ _ (by omega) (by omega)).mono ?_; rintro e w1 ⟨b1, ro, lr, cr, rfl, Hb1, hR, hB1⟩; obtain rfl : b1 = false := Hb1.out))
  go_loopw [5] (fun i wr => ∃ (k : Nat) (ro : Option Addr) (lr cr : Nat), k ≤ len ∧ i = .int .i64 k ∧ wr.cell? ⟨w1.heap.size, 0, none⟩ = some (.bool false) ∧ wr.cell? ⟨w1.heap.size, 1, none⟩ = some (.slice ro lr cr) ∧
      wr.frozen? ⟨w1.heap.size, 0, none⟩ = false ∧ wr.frozen? ⟨w1.heap.size, 1, none⟩ = false ∧ Mg wr ro lr cr (tot (zs.take k)) ∧ Below w.heap.size w wr ∧ w1.heap.size < wr.heap.size) (fun i _ => len - (intOf i).toNat)
  case atStart =>
    have c := Wd.cell_two w1 _ rfl (.bool false) (.slice ro lr cr) 95
    have f := Wd.free_two w1 _ rfl (.bool false) (.slice ro lr cr) 95
    exact ⟨0, ro, lr, cr, Nat.zero_le _, rfl, c.1, c.2, f.1, f.2, hR.below (Nat.le_refl _) ((Below.refl _ _).alloc (Nat.le_refl _) _), hB1.alloc hB1.size _, by simp⟩
  case round =>
    obtain ⟨k, ro, lr, cr, hk, rfl, c0, c1, f0, f1, hM, hnx, hsz⟩ := hrel
    have hs1 := hB1.size
    by_cases hlt : k < len
    · have hcell : wr.cell? ⟨b, off + k, none⟩ = some (.int .i64 (zs.getD k 0)) := by
        have h := hc.out k hlt
        rw [hnx.cell (World.block_lt_of_cell? _ _ h), h]
      have hmem : zs.getD k 0 ∈ zs := by rw [List.getD_eq_getElem?_getD, List.getElem?_eq_getElem (by rw [hz.out]; exact hlt)]; simp
      have hzb := hb.out _ hmem
      have HS : Hid (tot (zs.take (k + 1)) = tot (zs.take k) + (zs.getD k 0).natAbs) := tot_take zs k (by rw [hz.out]; exact hlt)
      have HT : Hid (tot (zs.take k) ≤ len * 9223372036854775808) := by
        have h1 := tot_le zs k
        have h2 := tot_bound zs hb.out
        rw [hz.out] at h2
        exact Nat.le_trans h1 h2
      obtain ⟨z, hze⟩ : ∃ z, zs.getD k 0 = z := ⟨_, rfl⟩
      rw [hze] at hcell hzb HS
      clear hze hmem
      obtain ⟨t, hte⟩ : ∃ t : Nat, tot (zs.take k) = t := ⟨_, rfl⟩
      rw [hte] at hM HS HT
      clear hte
      obtain ⟨l0, u0⟩ := hzb
      have hkeep : Hid (∀ w', Below wr.heap.size wr w' → w'.cell? ⟨w1.heap.size, 0, none⟩ = some (.bool false) ∧ w'.cell? ⟨w1.heap.size, 1, none⟩ = some (.slice ro lr cr) ∧ w'.cell? ⟨b, off + k, none⟩ = some (.int .i64 z) ∧ w'.frozen? ⟨w1.heap.size, 0, none⟩ = false ∧ w'.frozen? ⟨w1.heap.size, 1, none⟩ = false) := fun w' h =>
        ⟨(h.cell hsz).trans c0, (h.cell hsz).trans c1, (h.cell (World.block_lt_of_cell? _ _ hcell)).trans hcell, (h.frozen hsz).trans f0, (h.frozen hsz).trans f1⟩
      have hT := HT.out
      go_wp2
      go_region_with (first
        | (go_at_call 50; refine (plus_b (t : Int) (z.natAbs : Int) (t + z.natAbs : Nat) false false ro ro2 lr cr lr2 cr2 _ (by simp) (by simp) (hM.below (Nat.le_refl _) hW2) hR2 (by omega) (big64 _ (by omega))).mono ?_; rintro e w3 ⟨b3, ro3, lr3, cr3, rfl, Hb3, hR3, hB3⟩; obtain rfl : b3 = false := (Hb3.out.trans (decide_eq_false (by omega))); have hW3 := hW2.trans (hB3.mono hW2.size); obtain ⟨r0, r1, r2, r3, r4⟩ := hkeep.out _ hW3)
        | (go_at_call 51; refine (of_b z _ l0 u0).mono ?_; rintro e w2 ⟨b2, ro2, lr2, cr2, rfl, Hb2, hR2, hB2⟩; have hW2 := ((Below.refl wr.heap.size wr).drew).trans hB2; obtain ⟨q0, q1, q2, q3, q4⟩ := hkeep.out _ hW2))
      all_goals
        go_wp2
        go_roundw
        case rel =>
          go_light
          have st := stored_two (u := .bool false) (v := .slice ro3 lr3 cr3) r0 r1 r3 r4
          rw [Int.natAbs_natCast] at hR3
          exact ⟨k + 1, ro3, lr3, cr3, by omega, by go_num, st.1, st.2.1, st.2.2.1, st.2.2.2.1, by rw [HS.out]; exact Mg.stored hR3 r0 r1 _, Wd.two_below (hnx.trans (hW3.mono hnx.size)) hs1 _ _, by rw [st.2.2.2.2]; exact Nat.lt_of_lt_of_le hsz hW3.size⟩
        case measure => simp [intOf]; omega
    · have hkl : zs.take k = zs := List.take_of_length_le (by rw [hz.out]; omega)
      rw [hkl] at hM
      have HB : Hid (tot zs < 340282366920938463463374607431768211456) := by
        have h2 := tot_bound zs hb.out
        rw [hz.out] at h2
        show tot zs < _
        omega
      clear hkl
      go_wp2_with (go_at_call 49; refine (told_nat (tot zs) ro lr cr _ hM HB.out).mono ?_; rintro e w4 ⟨rfl, hB4⟩)
      go_ret2
      exact ⟨rfl, hnx.trans (hB4.mono hnx.size)⟩

theorem ref_total (v : Value) (zs : List Int) (w : World) (h : Row w v zs) (hlen : zs.length * 8 ≤ 140737488351232) :
    Calls Tryz.prog 29 #[v] w fun e w' => e = .returned (.tuple #[.int .i64 (outT (tot zs)), .int .i64 (errT (tot zs))]) ∧ Below w.heap.size w w' := by
  obtain ⟨e1, e2⟩ := outT_eq (tot zs)
  rw [e1, e2]
  obtain ⟨ao, cap, rfl, hm, hc, hw⟩ := h
  by_cases h0 : 0 < zs.length
  · obtain ⟨b, off, rfl, hc'⟩ := hc h0
    refine ref_total_row b off zs zs.length cap w rfl hlen hc' ?_
    intro z hz
    simpa [Lit.wf, IntKind.min, IntKind.max, IntKind.signed, IntKind.bits] using hw z hz
  · have e : zs = [] := List.length_eq_zero_iff.1 (by omega)
    subst e
    exact ref_total_none ao cap w
end Go.Proofs.YtiapkblebbcfbaaGreat.Chk
/- The document's Right. -/
namespace Go.Proofs.YtiapkblebbcfbaaGreat.Gl
open Go.RowKit
set_option linter.unusedVariables false
set_option linter.unusedSimpArgs false

theorem cells_argZ {W : World} {ad : Addr} {m c : Nat} {zs : List Int} (hR : RdZ W (some ad) m c zs) : ∀ j u, (cellsZ zs)[j]? = some u → W.cell? (ad.add j) = some u := by
  have hlen : zs.length = m := hR.eqlen
  intro j u hj
  rw [List.getElem?_map] at hj
  by_cases hjl : j < zs.length
  · rw [List.getElem?_eq_getElem hjl] at hj
    simp only [Option.map_some, Option.some.injEq] at hj
    subst hj
    obtain ⟨b, off, e, h1⟩ := hR.cell j (by omega)
    simp only [Option.some.injEq] at e
    subst e
    rw [List.getD_eq_getElem?_getD, List.getElem?_eq_getElem hjl] at h1
    rw [Go.WideShapes.add_plain]
    exact h1
  · rw [List.getElem?_eq_none (by omega)] at hj
    simp at hj
/-- 'append([]int64{d}, x...)' -/
theorem wp_oneQ {ops : Array Oper} {rest : List Oper} {o : Oper} {a : Act} {Q : Exit → Act → World → Prop} (W : World) (hgd : o.guard = none) (s x : Operand)
    (ho : o.op = .call { callee := .builtin .append, args := #[s, x], argTypes := #[27, 27] }) (d : Int)
    (hs : a.eval s = .slice (some ⟨W.heap.size, 0, none⟩) 1 1) (ao : Option Addr) (m c : Nat) (zs : List Int) (hx : a.eval x = .slice ao m c) (hR : RdZ W ao m c zs) (hm : m * 8 ≤ 140737488351232)
    (h : ∀ a' c' w', RdZ w' a' (1 + m) c' (d :: zs) → Below W.heap.size W w' → wpList Tryz.prog ops Q rest (a.put o.dst (.slice a' (1 + m) c')) w') : wpList Tryz.prog ops Q (o :: rest) a (W.alloc (.cells #[.int .i64 d] 2)) := by
  obtain ⟨i0, hi, hz0, hz1, hz2⟩ := info_parts Tryz.infoI64
  have hheap : (W.alloc (.cells #[.int .i64 d] 2)).heap[W.heap.size]? = some (.cells #[.int .i64 d] 2 (0, 0)) := rb_new W _ _
  have hown : (W.alloc (.cells #[.int .i64 d] 2)).ownsRow W.heap.size 2 1 (.slice (some ⟨W.heap.size, 0, none⟩) 1 1) 1 (cellsZ [d]) := ⟨by simp [cellsZ], .inr ⟨W.heap.size, 1, #[.int .i64 d], rfl, Nat.le_refl _, hheap, Nat.le_refl _, by unfold maxLen; omega, rfl, rfl⟩⟩
  have hB1 := bal W (.cells #[.int .i64 d] 2)
  have hlen : zs.length = m := hR.eqlen
  cases ao with
  | none =>
    have hc0 := hR.isnil rfl
    have hl := hR.lecap
    obtain rfl : c = 0 := hc0
    obtain rfl : m = 0 := by omega
    have hz : zs = [] := List.length_eq_zero_iff.1 hlen
    subst hz
    refine wpList_append_own_none hgd s x 27 ho W.heap.size 2 i0 1 Tryz.underlying27 hi _ 1 (cellsZ [d]) hs hown hx ?_
    obtain ⟨ro, cr, hv, hR'⟩ := rdz_of_owns hown
    simp only [Value.slice.injEq] at hv
    obtain ⟨rfl, -, rfl⟩ := hv
    exact h _ _ _ hR' hB1
  | some ad =>
    have hR1 := hR.below (Nat.le_refl _) hB1
    refine wpList_append_own _ hgd s x 27 ho W.heap.size 2 i0 (.int .i64 0) 1 8 Tryz.underlying27 hi hz0 hz1 hz2 rfl (by decide) _ 1 (cellsZ [d]) hs hown ad m c (cellsZ zs) hx (by simp [hlen]) (cells_argZ hR1) (ints_oneCell _ _) (by unfold maxLen; omega) (by omega) (by rw [World.size_alloc]; omega) ?_
    intro v' w' h2 h3 h4
    have h2' : w'.ownsRow W.heap.size 2 1 v' (1 + m) (cellsZ (d :: zs)) := by simpa [cellsZ] using h2
    obtain ⟨ro, cr, rfl, hR'⟩ := rdz_of_owns h2'
    refine h _ _ w' hR' ?_
    refine hB1.grown h3 (by rw [World.size_alloc]; omega) ?_
    intro k hk
    simp only [Value.ownBlock, Option.some.injEq] at hk
    omega

end Go.Proofs.YtiapkblebbcfbaaGreat.Gl
/- The document's wide numbers, none below 0; the four of them that a quotient goes by. -/
namespace Go.Proofs.YtiapkblebbcfbaaGreat.Wd
open Go.RowKit
set_option linter.unusedVariables false

theorem plusN (x y : Nat) (ao bo : Option Addr) (la ca lb cb : Nat) (w : World) (hX : Mg w ao la ca x) (hY : Mg w bo lb cb y) (hb : x + y < 340282366920938463463374607431768211456) :
    Calls Tryz.prog 50 #[.agg #[.bool false, .slice ao la ca], .agg #[.bool false, .slice bo lb cb]] w fun e w' => ∃ ro lr cr, e = .returned (.agg #[.bool false, .slice ro lr cr]) ∧ Mg w' ro lr cr (x + y) ∧ Below w.heap.size w w' := by
  refine (plus_b (x : Int) (y : Int) ((x + y : Nat) : Int) false false ao bo la ca lb cb w (decide_eq_false (by omega)).symm (decide_eq_false (by omega)).symm (by rw [Int.natAbs_natCast]; exact hX) (by rw [Int.natAbs_natCast]; exact hY) (by omega) (big64 _ (by omega))).mono ?_
  rintro e w' ⟨b, ro, lr, cr, rfl, h1, h2, h3⟩
  have e1 : b = false := h1.out.trans (decide_eq_false (by omega))
  subst e1
  rw [Int.natAbs_natCast] at h2
  exact ⟨ro, lr, cr, rfl, h2, h3⟩
theorem ofN (n : Nat) (w : World) (hn : n ≤ 9223372036854775807) :
    Calls Tryz.prog 51 #[.int .i64 n] w fun e w' => ∃ ro lr cr, e = .returned (.agg #[.bool false, .slice ro lr cr]) ∧ Mg w' ro lr cr n ∧ Below w.heap.size w w' := by
  refine (of_b (n : Int) w (by omega) (by omega)).mono ?_
  rintro e w' ⟨b, ro, lr, cr, rfl, h1, h2, h3⟩
  have e1 : b = false := h1.out.trans (decide_eq_false (by omega))
  subst e1
  rw [Int.natAbs_natCast] at h2
  exact ⟨ro, lr, cr, rfl, h2, h3⟩
/-- of a number its absolute value's digits -/
theorem ofAbs (a : Int) (w : World) (l0 : -9223372036854775808 ≤ a) (u0 : a ≤ 9223372036854775807) :
    Calls Tryz.prog 51 #[.int .i64 a] w fun e w' => ∃ b ro lr cr, e = .returned (.agg #[.bool b, .slice ro lr cr]) ∧ Mg w' ro lr cr a.natAbs ∧ Below w.heap.size w w' := by
  refine (of_b a w l0 u0).mono ?_
  rintro e w' ⟨b, ro, lr, cr, rfl, h1, h2, h3⟩
  exact ⟨b, ro, lr, cr, rfl, h2, h3⟩
theorem minusN (y : Nat) (bo : Option Addr) (lb cb : Nat) (w : World) (hY : Mg w bo lb cb y) :
    Calls Tryz.prog 52 #[.agg #[.bool false, .slice bo lb cb]] w fun e w' => ∃ b ro lr cr, e = .returned (.agg #[.bool b, .slice ro lr cr]) ∧ Hid (b = decide (-(y : Int) < 0)) ∧ Mg w' ro lr cr y ∧ Below w.heap.size w w' := by
  refine (minus_b (y : Int) false bo lb cb w (decide_eq_false (by omega)).symm (by rw [Int.natAbs_natCast]; exact hY)).mono ?_
  rintro e w' ⟨b, ro, lr, cr, rfl, h1, h2, h3⟩
  rw [Int.natAbs_neg, Int.natAbs_natCast] at h2
  exact ⟨b, ro, lr, cr, rfl, h1, h2, h3⟩
theorem subN (x y : Nat) (b : Bool) (ao bo : Option Addr) (la ca lb cb : Nat) (w : World) (hX : Mg w ao la ca x) (hY : Mg w bo lb cb y) (Hb : Hid (b = decide (-(y : Int) < 0))) (hle : y ≤ x) (hx : x < 340282366920938463463374607431768211456) :
    Calls Tryz.prog 50 #[.agg #[.bool false, .slice ao la ca], .agg #[.bool b, .slice bo lb cb]] w fun e w' => ∃ ro lr cr, e = .returned (.agg #[.bool false, .slice ro lr cr]) ∧ Mg w' ro lr cr (x - y) ∧ Below w.heap.size w w' := by
  refine (plus_b (x : Int) (-(y : Int)) ((x - y : Nat) : Int) false b ao bo la ca lb cb w (decide_eq_false (by omega)).symm Hb.out (by rw [Int.natAbs_natCast]; exact hX) (by rw [Int.natAbs_neg, Int.natAbs_natCast]; exact hY) (by omega) (big64 _ (by omega))).mono ?_
  rintro e w' ⟨b, ro, lr, cr, rfl, h1, h2, h3⟩
  have e1 : b = false := h1.out.trans (decide_eq_false (by omega))
  subst e1
  rw [Int.natAbs_natCast] at h2
  exact ⟨ro, lr, cr, rfl, h2, h3⟩
theorem sizeN (x y : Nat) (ao bo : Option Addr) (la ca lb cb : Nat) (w : World) (hX : Mg w ao la ca x) (hY : Mg w bo lb cb y) :
    Calls Tryz.prog 78 #[.agg #[.bool false, .slice ao la ca], .agg #[.bool false, .slice bo lb cb]] w fun e w' => ∃ c, e = .returned (.int .i64 c) ∧ Hid (0 ≤ c ↔ y ≤ x) ∧ Below w.heap.size w w' := by
  obtain ⟨A, hA, nA, vA, lA⟩ := hX
  obtain ⟨B, hB, nB, vB, lB⟩ := hY
  refine (size_at false false ao bo la ca lb cb A B w hA hB).mono ?_
  rintro e w' ⟨rfl, h⟩
  refine ⟨_, rfl, ?_, h⟩
  show _ ↔ _
  rw [vA, vB]
  unfold cmpN
  split
  · omega
  · split <;> omega

/-- a wide number, not below 0, in the variable at block p -/
structure Bx (w : World) (p : Nat) (ao : Option Addr) (l c : Nat) : Prop where
  c0 : w.cell? ⟨p, 0, none⟩ = some (.bool false)
  c1 : w.cell? ⟨p, 1, none⟩ = some (.slice ao l c)
  f0 : w.frozen? ⟨p, 0, none⟩ = false
  f1 : w.frozen? ⟨p, 1, none⟩ = false
theorem Bx.below {w w' : World} {p : Nat} {ao : Option Addr} {l c B : Nat} (h : Bx w p ao l c) (hb : Below B w w') (hp : p < B) : Bx w' p ao l c :=
  ⟨(hb.cell (p := ⟨p, 0, none⟩) hp).trans h.c0, (hb.cell (p := ⟨p, 1, none⟩) hp).trans h.c1, (hb.frozen (p := ⟨p, 0, none⟩) hp).trans h.f0, (hb.frozen (p := ⟨p, 1, none⟩) hp).trans h.f1⟩
/-- what a store of a wide number into the variable at block p makes of the world -/
abbrev put (w : World) (p : Nat) (ao : Option Addr) (l c : Nat) : World := (w.setCell ⟨p, 0, none⟩ (.bool false)).setCell ⟨p, 1, none⟩ (.slice ao l c)
theorem Bx.put_same {w : World} {p : Nat} {ao : Option Addr} {l c : Nat} (h : Bx w p ao l c) (ao' : Option Addr) (l' c' : Nat) : Bx (put w p ao' l' c') p ao' l' c' := by
  have e1 : (w.setCell ⟨p, 0, none⟩ (.bool false)).cell? ⟨p, 1, none⟩ = some (.slice ao l c) := by
    rw [World.cell?_setCell_other]
    · exact h.c1
    · simp
  have e0 : (w.setCell ⟨p, 0, none⟩ (.bool false)).cell? ⟨p, 0, none⟩ = some (.bool false) := World.cell?_setCell_same _ _ _ h.c0
  refine ⟨?_, World.cell?_setCell_same _ _ _ e1, by simpa using h.f0, by simpa using h.f1⟩
  rw [World.cell?_setCell_other]
  · exact e0
  · simp
theorem Bx.put_other {w : World} {p q : Nat} {ao : Option Addr} {l c : Nat} (h : Bx w q ao l c) (hne : p ≠ q) (ao' : Option Addr) (l' c' : Nat) : Bx (put w p ao' l' c') q ao l c := by
  refine ⟨?_, ?_, by simpa using h.f0, by simpa using h.f1⟩
  · rw [World.cell?_setCell_other _ _ _ _ (by simp), World.cell?_setCell_other _ _ _ _ (by simp)]; exact h.c0
  · rw [World.cell?_setCell_other _ _ _ _ (by simp), World.cell?_setCell_other _ _ _ _ (by simp)]; exact h.c1
theorem Mg.put {w : World} {p : Nat} {ao : Option Addr} {l c : Nat} (hp : Bx w p ao l c) {bo : Option Addr} {lb cb m : Nat} (h : Mg w bo lb cb m) (ao' : Option Addr) (l' c' : Nat) : Mg (put w p ao' l' c') bo lb cb m := h.stored hp.c0 hp.c1 _
theorem put_size (w : World) (p : Nat) (ao : Option Addr) (l c : Nat) : (put w p ao l c).heap.size = w.heap.size := by simp
theorem put_below {B : Nat} {W0 w : World} (h : Below B W0 w) {p : Nat} (hp : B ≤ p) (ao : Option Addr) (l c : Nat) : Below B W0 (put w p ao l c) := two_below h hp _ _

/-- the state of a quotient: x and y stay, q and r turn -/
structure St (w wr : World) (X Y Q R : Nat) (xo yo qo ro : Option Addr) (xl xc yl yc ql qc rl rc : Nat) (m d q r : Nat) : Prop where
  bx : Bx wr X xo xl xc
  bY : Bx wr Y yo yl yc
  bq : Bx wr Q qo ql qc
  br : Bx wr R ro rl rc
  mx : Mg wr xo xl xc m
  my : Mg wr yo yl yc d
  mq : Mg wr qo ql qc q
  mr : Mg wr ro rl rc r
  bel : Below w.heap.size w wr
  o0 : w.heap.size ≤ X
  o1 : X < Y
  o2 : Y < Q
  o3 : Q < R
  o4 : R < wr.heap.size
theorem St.below {w wr w' : World} {X Y Q R : Nat} {xo yo qo ro : Option Addr} {xl xc yl yc ql qc rl rc m d q r : Nat} (h : St w wr X Y Q R xo yo qo ro xl xc yl yc ql qc rl rc m d q r) (hb : Below wr.heap.size wr w') : St w w' X Y Q R xo yo qo ro xl xc yl yc ql qc rl rc m d q r := by
  have h1 := h.o1
  have h2 := h.o2
  have h3 := h.o3
  have h4 := h.o4
  exact ⟨h.bx.below hb (by omega), h.bY.below hb (by omega), h.bq.below hb (by omega), h.br.below hb (by omega), h.mx.below (Nat.le_refl _) hb, h.my.below (Nat.le_refl _) hb, h.mq.below (Nat.le_refl _) hb, h.mr.below (Nat.le_refl _) hb,
    h.bel.trans (hb.mono h.bel.size), h.o0, h.o1, h.o2, h.o3, Nat.lt_of_lt_of_le h.o4 hb.size⟩
theorem St.setR {w wr : World} {X Y Q R : Nat} {xo yo qo ro : Option Addr} {xl xc yl yc ql qc rl rc m d q r : Nat} (h : St w wr X Y Q R xo yo qo ro xl xc yl yc ql qc rl rc m d q r) {ro' : Option Addr} {rl' rc' r' : Nat} (hr : Mg wr ro' rl' rc' r') : St w (put wr R ro' rl' rc') X Y Q R xo yo qo ro' xl xc yl yc ql qc rl' rc' m d q r' := by
  have h1 := h.o1
  have h2 := h.o2
  have h3 := h.o3
  have h0 := h.o0
  exact ⟨h.bx.put_other (by omega) _ _ _, h.bY.put_other (by omega) _ _ _, h.bq.put_other (by omega) _ _ _, h.br.put_same _ _ _, Mg.put h.br h.mx _ _ _, Mg.put h.br h.my _ _ _, Mg.put h.br h.mq _ _ _, Mg.put h.br hr _ _ _, put_below h.bel (by omega) _ _ _, h.o0, h.o1, h.o2, h.o3, by rw [put_size]; exact h.o4⟩
theorem St.setQ {w wr : World} {X Y Q R : Nat} {xo yo qo ro : Option Addr} {xl xc yl yc ql qc rl rc m d q r : Nat} (h : St w wr X Y Q R xo yo qo ro xl xc yl yc ql qc rl rc m d q r) {qo' : Option Addr} {ql' qc' q' : Nat} (hq : Mg wr qo' ql' qc' q') : St w (put wr Q qo' ql' qc') X Y Q R xo yo qo' ro xl xc yl yc ql' qc' rl rc m d q' r := by
  have h1 := h.o1
  have h2 := h.o2
  have h3 := h.o3
  have h0 := h.o0
  exact ⟨h.bx.put_other (by omega) _ _ _, h.bY.put_other (by omega) _ _ _, h.bq.put_same _ _ _, h.br.put_other (by omega) _ _ _, Mg.put h.bq h.mx _ _ _, Mg.put h.bq h.my _ _ _, Mg.put h.bq hq _ _ _, Mg.put h.bq h.mr _ _ _, put_below h.bel (by omega) _ _ _, h.o0, h.o1, h.o2, h.o3, by rw [put_size]; exact h.o4⟩
end Go.Proofs.YtiapkblebbcfbaaGreat.Wd
/- Quotients by digits of 2: plain mathematics, no Go. -/
namespace Go.Proofs.YtiapkblebbcfbaaGreat.Wd
set_option linter.unusedVariables false

theorem V_dig {f : Nat → Nat} (hf : ∀ i, f i < 65536) (j k : Nat) (h : j < k) : V f k / 65536 ^ j % 65536 = f j := by
  induction k with
  | zero => omega
  | succ k ih =>
    simp only [V]
    by_cases e : j = k
    · subst e
      have h1 := V_lt hf j
      rw [Nat.add_mul_div_left _ _ (Nat.pow_pos (by omega)), Nat.div_eq_of_lt h1, Nat.zero_add, Nat.mod_eq_of_lt (hf j)]
    · obtain ⟨t, ht⟩ : ∃ t, k = j + (t + 1) := ⟨k - j - 1, by omega⟩
      have e2 : 65536 ^ k * f k = 65536 ^ j * (65536 * (65536 ^ t * f k)) := by
        rw [ht, Nat.pow_add, Nat.pow_succ, Nat.mul_assoc, Nat.mul_comm (65536 ^ t) 65536, Nat.mul_assoc]
      rw [e2, Nat.add_mul_div_left _ _ (Nat.pow_pos (by omega)), Nat.add_mul_mod_self_left]
      exact ih (by omega)
theorem dg_val {A : List Nat} (h : Small A) (j : Nat) : dg A j = val A / 65536 ^ j % 65536 := by
  by_cases hj : j < A.length
  · unfold val; rw [V_dig (dg_lt h) j A.length hj]
  · have e := val_at (ds := A) (k := j + 1) (by omega)
    rw [← e, V_dig (dg_lt h) j (j + 1) (by omega)]
theorem bit_mod (x r : Nat) (h : r < 16) : x % 65536 / 2 ^ r % 2 = x / 2 ^ r % 2 := by
  rw [← Nat.toNat_testBit, ← Nat.toNat_testBit, show (65536 : Nat) = 2 ^ 16 from rfl, Nat.testBit_mod_two_pow]
  simp [h]
theorem bit_at {A : List Nat} (h : Small A) (i : Nat) : dg A (i / 16) / 2 ^ (i % 16) % 2 = val A / 2 ^ i % 2 := by
  rw [dg_val h, bit_mod _ _ (by omega), Nat.div_div_eq_div_mul]
  congr 2
  have e : i = 16 * (i / 16) + i % 16 := by omega
  rw [show (65536 : Nat) = 2 ^ 16 from rfl, ← Nat.pow_mul, ← Nat.pow_add, ← e]

/-- a round of the quotient -/
theorem quo_step {m n q r d c : Nat} (h : q * d + r = m / 2 ^ (n + 1)) (hr : r < d) (hc : c = m / 2 ^ n % 2) :
    (d ≤ r + r + c → (q + q + 1) * d + (r + r + c - d) = m / 2 ^ n ∧ r + r + c - d < d) ∧ (¬ d ≤ r + r + c → (q + q) * d + (r + r + c) = m / 2 ^ n ∧ r + r + c < d) := by
  have e : m / 2 ^ n = 2 * (m / 2 ^ (n + 1)) + c := by
    rw [Nat.pow_succ, ← Nat.div_div_eq_div_mul]; omega
  have e1 : (q + q) * d = q * d + q * d := Nat.add_mul _ _ _
  have e2 : (q + q + 1) * d = q * d + q * d + d := by rw [Nat.add_mul, Nat.add_mul]; omega
  constructor
  · intro h1; rw [e2]; omega
  · intro h1; rw [e1]; omega
theorem quo_bound {m n q r d : Nat} (h : q * d + r = m / 2 ^ n) (hd : 0 < d) (hm : m ≤ 9223372036854775808) : q ≤ 9223372036854775808 := by
  have h1 : q * 1 ≤ q * d := Nat.mul_le_mul_left _ hd
  have h2 : m / 2 ^ n ≤ m := Nat.div_le_self _ _
  omega
theorem quo_end {m q r d : Nat} (h : q * d + r = m / 2 ^ 0) (hr : r < d) : q = m / d ∧ r = m % d := by
  rw [Nat.pow_zero, Nat.div_one] at h
  have h1 : m / d = q := by
    rw [← h, Nat.mul_comm, Nat.mul_add_div (by omega), Nat.div_eq_of_lt hr, Nat.add_zero]
  have h2 : m % d = r := by
    rw [← h, Nat.mul_comm, Nat.mul_add_mod, Nat.mod_eq_of_lt hr]
  exact ⟨h1.symm, h2.symm⟩

/-- the quotient that goes down, out of the one of the absolute values -/
theorem floor_like (a b : Int) (hb : b ≠ 0) (h : (a < 0 ↔ b < 0)) : ((a.natAbs / b.natAbs : Nat) : Int) = a.fdiv b := by
  rw [Int.natCast_ediv]
  by_cases hs : a < 0
  · have hb' : b < 0 := h.1 hs
    rw [Int.ofNat_natAbs_of_nonpos (by omega), Int.ofNat_natAbs_of_nonpos (by omega), ← Int.fdiv_eq_ediv_of_nonneg _ (by omega), Int.neg_fdiv_neg]
  · have hb' : ¬ b < 0 := fun h2 => hs (h.2 h2)
    rw [Int.natAbs_of_nonneg (by omega), Int.natAbs_of_nonneg (by omega), Int.fdiv_eq_ediv_of_nonneg _ (by omega)]
theorem floor_unlike (a b : Int) (hb : b ≠ 0) (h : ¬ (a < 0 ↔ b < 0)) : a.fdiv b = -((a.natAbs / b.natAbs : Nat) : Int) - (if 0 < a.natAbs % b.natAbs then 1 else 0) := by
  obtain ⟨m, hm⟩ : ∃ m, m = a.natAbs := ⟨_, rfl⟩
  obtain ⟨d, hd⟩ : ∃ d, d = b.natAbs := ⟨_, rfl⟩
  rw [← hm, ← hd]
  have e : a.fdiv b = (-(m : Int)).fdiv d := by
    by_cases hs : a < 0
    · have hb' : ¬ b < 0 := fun h2 => h ⟨fun _ => h2, fun _ => hs⟩
      rw [show -(m : Int) = a from by omega, show (d : Int) = b from by omega]
    · have hb' : b < 0 := by
        by_cases h2 : b < 0
        · exact h2
        · exact absurd ⟨fun h3 => absurd h3 hs, fun h3 => absurd h3 h2⟩ h
      rw [show -(m : Int) = -a from by omega, show (d : Int) = -b from by omega, Int.neg_fdiv_neg]
  rw [e, Int.fdiv_eq_ediv_of_nonneg _ (by omega)]
  have hdp : 0 < d := by omega
  have hqr := Nat.div_add_mod m d
  have hlt := Nat.mod_lt m hdp
  generalize hq : m / d = q at *
  generalize hrr : m % d = r at *
  have hmi : (m : Int) = d * q + r := by rw [← Int.natCast_mul, ← Int.natCast_add, hqr]
  by_cases hr : 0 < r
  · rw [if_pos hr]
    have e2 : -(m : Int) = (d - r) + d * (-(q : Int) - 1) := by
      rw [Int.mul_sub, Int.mul_neg, Int.mul_one]; omega
    rw [e2, Int.add_mul_ediv_left _ _ (by omega), Int.ediv_eq_zero_of_lt (by omega) (by omega)]
    omega
  · rw [if_neg hr]
    have hr0 : r = 0 := by omega
    have e2 : -(m : Int) = 0 + d * (-(q : Int)) := by
      rw [Int.mul_neg]; omega
    rw [e2, Int.add_mul_ediv_left _ _ (by omega)]
    simp
end Go.Proofs.YtiapkblebbcfbaaGreat.Wd
/- The document's Floor: the walk. -/
namespace Go.Proofs.YtiapkblebbcfbaaGreat.Wd
open Go.RowKit
set_option linter.unusedVariables false
attribute [local go_sem ↓] Go.wp_at_zero Go.wp_at_succ

theorem bx_new (W : World) (p : Nat) (h : W.heap.size = p) (ao : Option Addr) (l c : Nat) : Bx (W.alloc (.cells #[.bool false, .slice ao l c] 95)) p ao l c := by
  have e := cell_two W p h (.bool false) (.slice ao l c) 95
  have f := free_two W p h (.bool false) (.slice ao l c) 95
  exact ⟨e.1, e.2, f.1, f.2⟩

/-- what lies at the loop's beginning -/
theorem floor_start {w w1 w2 w3 w4 : World} {o1 o2 o3 o4 : Option Addr} {k1 c1 k2 c2 k3 c3 k4 c4 : Nat} {m d : Nat} (hR1 : Mg w1 o1 k1 c1 m) (hB1 : Below w.heap.size w w1) (hR2 : Mg w2 o2 k2 c2 d) (hB2 : Below w1.heap.size w1 w2)
    (hR3 : Mg w3 o3 k3 c3 0) (hB3 : Below ((w2.alloc (.cells #[.bool false, .slice o1 k1 c1] 95)).alloc (.cells #[.bool false, .slice o2 k2 c2] 95)).heap.size ((w2.alloc (.cells #[.bool false, .slice o1 k1 c1] 95)).alloc (.cells #[.bool false, .slice o2 k2 c2] 95)) w3)
    (hR4 : Mg w4 o4 k4 c4 0) (hB4 : Below w3.heap.size w3 w4) :
    St w ((w4.alloc (.cells #[.bool false, .slice o3 k3 c3] 95)).alloc (.cells #[.bool false, .slice o4 k4 c4] 95)) w2.heap.size (w2.heap.size + 1) w4.heap.size (w4.heap.size + 1) o1 o2 o3 o4 k1 c1 k2 c2 k3 c3 k4 c4 m d 0 0 := by
  have hs1 := hB1.size
  have hs2 := hB2.size
  have hs3 := hB3.size
  have hs4 := hB4.size
  have e2 : ((w2.alloc (.cells #[.bool false, .slice o1 k1 c1] 95)).alloc (.cells #[.bool false, .slice o2 k2 c2] 95)).heap.size = w2.heap.size + 2 := by simp
  rw [e2] at hs3
  -- the two new blocks behind w2, the two behind w4
  have n1 : Below w2.heap.size w2 (w2.alloc (.cells #[.bool false, .slice o1 k1 c1] 95)) := (Below.refl _ _).alloc (Nat.le_refl _) _
  have n2 : Below (w2.heap.size + 1) (w2.alloc (.cells #[.bool false, .slice o1 k1 c1] 95)) ((w2.alloc (.cells #[.bool false, .slice o1 k1 c1] 95)).alloc (.cells #[.bool false, .slice o2 k2 c2] 95)) := (Below.refl _ _).alloc (by simp) _
  have n3 : Below (w2.heap.size + 2) ((w2.alloc (.cells #[.bool false, .slice o1 k1 c1] 95)).alloc (.cells #[.bool false, .slice o2 k2 c2] 95)) w4 := (hB3.mono (by rw [e2]; exact Nat.le_refl _)).trans (hB4.mono hs3)
  have n4 : Below w4.heap.size w4 (w4.alloc (.cells #[.bool false, .slice o3 k3 c3] 95)) := (Below.refl _ _).alloc (Nat.le_refl _) _
  have n5 : Below (w4.heap.size + 1) (w4.alloc (.cells #[.bool false, .slice o3 k3 c3] 95)) ((w4.alloc (.cells #[.bool false, .slice o3 k3 c3] 95)).alloc (.cells #[.bool false, .slice o4 k4 c4] 95)) := (Below.refl _ _).alloc (by simp) _
  have n45 := n4.trans (n5.mono (Nat.le_succ _))
  have x1 := (((bx_new w2 _ rfl o1 k1 c1).below n2 (by omega)).below n3 (by omega)).below n45 (by omega)
  have x2 := ((bx_new (w2.alloc (.cells #[.bool false, .slice o1 k1 c1] 95)) (w2.heap.size + 1) (by simp) o2 k2 c2).below n3 (by omega)).below n45 (by omega)
  have x3 := (bx_new w4 _ rfl o3 k3 c3).below n5 (by omega)
  have x4 := bx_new (w4.alloc (.cells #[.bool false, .slice o3 k3 c3] 95)) (w4.heap.size + 1) (by simp) o4 k4 c4
  have b24 : Below w2.heap.size w2 w4 := (n1.trans (n2.mono (Nat.le_succ _))).trans (n3.mono (by omega))
  have m1 := ((hR1.below (Nat.le_refl _) hB2).below (Nat.le_refl _) b24).below (Nat.le_refl _) n45
  have m2 := (hR2.below (Nat.le_refl _) b24).below (Nat.le_refl _) n45
  have m3 := (hR3.below (Nat.le_refl _) hB4).below (Nat.le_refl _) n45
  have m4 := hR4.below (Nat.le_refl _) n45
  exact ⟨x1, x2, x3, x4, m1, m2, m3, m4, ((hB1.trans (hB2.mono hs1)).trans (b24.mono (by omega))).trans (n45.mono (by omega)), by omega, by omega, by omega, by omega, by simp⟩
theorem floor_first {w2 w3 w4 : World} {o1 o2 : Option Addr} {k1 c1 k2 c2 : Nat} (hB3 : Below ((w2.alloc (.cells #[.bool false, .slice o1 k1 c1] 95)).alloc (.cells #[.bool false, .slice o2 k2 c2] 95)).heap.size ((w2.alloc (.cells #[.bool false, .slice o1 k1 c1] 95)).alloc (.cells #[.bool false, .slice o2 k2 c2] 95)) w3)
    (hB4 : Below w3.heap.size w3 w4) : w4.cell? ⟨w2.heap.size, 1, none⟩ = some (.slice o1 k1 c1) ∧ w2.heap.size < w4.heap.size := by
  have hs3 := hB3.size
  have hs4 := hB4.size
  have e2 : ((w2.alloc (.cells #[.bool false, .slice o1 k1 c1] 95)).alloc (.cells #[.bool false, .slice o2 k2 c2] 95)).heap.size = w2.heap.size + 2 := by simp
  rw [e2] at hs3
  have n3 : Below (w2.heap.size + 2) ((w2.alloc (.cells #[.bool false, .slice o1 k1 c1] 95)).alloc (.cells #[.bool false, .slice o2 k2 c2] 95)) w4 := (hB3.mono (by rw [e2]; exact Nat.le_refl _)).trans (hB4.mono hs3)
  have n2 : Below (w2.heap.size + 1) (w2.alloc (.cells #[.bool false, .slice o1 k1 c1] 95)) ((w2.alloc (.cells #[.bool false, .slice o1 k1 c1] 95)).alloc (.cells #[.bool false, .slice o2 k2 c2] 95)) := (Below.refl _ _).alloc (by simp) _
  exact ⟨(((bx_new w2 _ rfl o1 k1 c1).below n2 (by omega)).below n3 (by omega)).c1, by omega⟩

theorem bit_form (D i : Nat) (h : D < 65536) : IntKind.i64.wrap (bits .and .u64 ((D : Int) / 2 ^ ((i : Int) % 16).toNat) 1) = ((D / 2 ^ (i % 16) % 2 : Nat) : Int) := by
  have e1 : ((i : Int) % 16).toNat = i % 16 := by omega
  rw [e1]
  have e2 : ((D : Int) / 2 ^ (i % 16)) = ((D / 2 ^ (i % 16) : Nat) : Int) := by
    rw [Int.natCast_ediv, Int.natCast_pow]; rfl
  rw [e2]
  have h2 : D / 2 ^ (i % 16) ≤ D := Nat.div_le_self _ _
  generalize D / 2 ^ (i % 16) = E at *
  have e3 := u64_and_nat E 1 (by omega) (by omega)
  rw [nat_mask1] at e3
  rw [show ((1 : Int)) = ((1 : Nat) : Int) from rfl, e3, IntKind.wrap_i64]
  omega

theorem mg_pos {w : World} {ao : Option Addr} {l c m : Nat} (h : Mg w ao l c m) : 0 < m ↔ 0 < l := by
  obtain ⟨A, hA, nA, vA, lA⟩ := h
  rw [← vA, ← val_pos nA, hA.eqlen]
theorem stored_cells {w : World} {R : Nat} {a b u v : Value} (h0 : w.cell? ⟨R, 0, none⟩ = some a) (h1 : w.cell? ⟨R, 1, none⟩ = some b) (f0 : w.frozen? ⟨R, 0, none⟩ = false) (f1 : w.frozen? ⟨R, 1, none⟩ = false) :
    ((w.setCell ⟨R, 0, none⟩ u).setCell ⟨R, 1, none⟩ v).cell? ⟨R, 0, none⟩ = some u ∧ ((w.setCell ⟨R, 0, none⟩ u).setCell ⟨R, 1, none⟩ v).cell? ⟨R, 1, none⟩ = some v ∧
    ((w.setCell ⟨R, 0, none⟩ u).setCell ⟨R, 1, none⟩ v).frozen? ⟨R, 0, none⟩ = false ∧ ((w.setCell ⟨R, 0, none⟩ u).setCell ⟨R, 1, none⟩ v).frozen? ⟨R, 1, none⟩ = false ∧ ((w.setCell ⟨R, 0, none⟩ u).setCell ⟨R, 1, none⟩ v).heap.size = w.heap.size := by
  have e1 : (w.setCell ⟨R, 0, none⟩ u).cell? ⟨R, 1, none⟩ = some b := by
    rw [World.cell?_setCell_other]
    · exact h1
    · simp
  have e0 : (w.setCell ⟨R, 0, none⟩ u).cell? ⟨R, 0, none⟩ = some u := World.cell?_setCell_same _ _ _ h0
  refine ⟨?_, World.cell?_setCell_same _ _ _ e1, ?_, ?_, by simp⟩
  · rw [World.cell?_setCell_other]
    · exact e0
    · simp
  · simpa using f0
  · simpa using f1

theorem keep4 {X W : World} {R n : Nat} {a b : Value} (h : X.cell? ⟨R, 0, none⟩ = some a ∧ X.cell? ⟨R, 1, none⟩ = some b ∧ X.frozen? ⟨R, 0, none⟩ = false ∧ X.frozen? ⟨R, 1, none⟩ = false ∧ X.heap.size = n) (hn : R < n) (hb : Below X.heap.size X W) :
    W.cell? ⟨R, 0, none⟩ = some a ∧ W.cell? ⟨R, 1, none⟩ = some b ∧ W.frozen? ⟨R, 0, none⟩ = false ∧ W.frozen? ⟨R, 1, none⟩ = false := by
  obtain ⟨h0, h1, h2, h3, h4⟩ := h
  have hR : R < X.heap.size := by omega
  exact ⟨(hb.cell (p := ⟨R, 0, none⟩) hR).trans h0, (hb.cell (p := ⟨R, 1, none⟩) hR).trans h1, (hb.frozen (p := ⟨R, 0, none⟩) hR).trans h2, (hb.frozen (p := ⟨R, 1, none⟩) hR).trans h3⟩
theorem drew_below {X W : World} (h : Below X.drew.heap.size X.drew W) : Below X.heap.size X W := ((Below.refl X.heap.size X).drew).trans h
theorem ret_num {x y : Int} (h : x = y) : Ending.returned (.tuple #[.int .i64 (nOf x), .int .i64 (eOf x)]) = .returned (.tuple #[.int .i64 (nOf y), .int .i64 (eOf y)]) := by rw [h]

set_option maxHeartbeats 4000000 in
theorem ref_floor (a b : Int) (w : World) (l0 : -9223372036854775808 ≤ a) (u0 : a ≤ 9223372036854775807) (l1 : -9223372036854775808 ≤ b) (u1 : b ≤ 9223372036854775807) (hb : ¬ b = 0) :
    Calls Tryz.prog 53 #[.int .i64 a, .int .i64 b] w fun e w' => e = .returned (.tuple #[.int .i64 (nOf (a.fdiv b)), .int .i64 (eOf (a.fdiv b))]) ∧ Below w.heap.size w w' := by
  have hb0 : (b == 0) = false := beq_eq_false_iff_ne.2 hb
  have hf1 := field1
  go_enter Tryz.func53, Tryz.ntmps53
  go_wp2_with (first
    | (go_at_call 51; have _t := hB3; refine (ofN 0 _ (by omega)).mono ?_; rintro e w4 ⟨o4, k4, c4, rfl, hR4, hB4⟩; obtain ⟨q1, q2⟩ := floor_first hB3 hB4)
    | (go_at_call 51; have _t := hB2; refine (ofN 0 _ (by omega)).mono ?_; rintro e w3 ⟨o3, k3, c3, rfl, hR3, hB3⟩)
    | (go_at_call 51; have _t := hB1; refine (ofAbs b _ l1 u1).mono ?_; rintro e w2 ⟨b2, o2, k2, c2, rfl, hR2, hB2⟩)
    | (go_at_call 51; refine (ofAbs a _ l0 u0).mono ?_; rintro e w1 ⟨b1, o1, k1, c1, rfl, hR1, hB1⟩; obtain ⟨A, hA, nA, vA, lA⟩ := hR1; have hR1 : Mg w1 o1 k1 c1 a.natAbs := ⟨A, hA, nA, vA, lA⟩; have HA : Hid (Small A ∧ A.length = k1 ∧ val A = a.natAbs) := ⟨hA.small, hA.eqlen, vA⟩; clear hA nA vA))
  have hst := floor_start hR1 hB1 hR2 hB2 hR3 hB3 hR4 hB4
  have HS0 : Hid _ := hst
  have hm0 : a.natAbs ≤ 9223372036854775808 := by omega
  have hd0 : 0 < b.natAbs := by omega
  have hd1 : b.natAbs ≤ 9223372036854775808 := by omega
  obtain ⟨m, hm⟩ : ∃ m, m = a.natAbs := ⟨_, rfl⟩
  obtain ⟨d, hd⟩ : ∃ d, d = b.natAbs := ⟨_, rfl⟩
  rw [← hm] at hst hm0 HA
  rw [← hd] at hst hd0 hd1
  have hM : Hid (m = a.natAbs) := hm
  have hD : Hid (d = b.natAbs) := hd
  have hz : Hid (m / 2 ^ (16 * k1) = 0) := by
    have h1 := val_lt HA.out.1
    rw [HA.out.2.1, HA.out.2.2, show (65536 : Nat) = 2 ^ 16 from rfl, ← Nat.pow_mul] at h1
    exact Nat.div_eq_of_lt h1
  clear hR1 hR2 hR3 hR4 hB1 hB2 hB3 hB4 q1 hm hd HS0
  go_loopg [10] (16 * k1) (fun n i wr => ∃ (q r : Nat) (qo ro : Option Addr) (ql qc rl rc : Nat), n ≤ 16 * k1 ∧ i = .int .i64 ((n : Int) - 1) ∧ St w wr w2.heap.size (w2.heap.size + 1) w4.heap.size (w4.heap.size + 1) o1 o2 qo ro k1 c1 k2 c2 ql qc rl rc m d q r ∧ Hid (q * d + r = m / 2 ^ n) ∧ Hid (r < d))
  case atStart => exact ⟨0, 0, o3, o4, k3, c3, k4, c4, Nat.le_refl _, by go_num, hst, (by show _ = _; rw [hz.out]; omega), hd0⟩
  case round =>
    obtain ⟨q, r, qo, ro, ql, qc, rl, rc, hn, rfl, hS, hinv, hr⟩ := hrel
    clear hst hz
    rcases gk with _ | i
    · have he := quo_end hinv.out hr.out
      have HE : Hid (q = m / d ∧ r = m % d) := he
      have hqb := quo_bound hinv.out hd0 hm0
      have hrd := hr.out
      clear he hinv hr
      obtain ⟨q0, q1, qf0, qf1⟩ := hS.bq
      obtain ⟨r0, r1, rf0, rf1⟩ := hS.br
      have hQw : w.heap.size ≤ w4.heap.size := by have := hS.o0; have := hS.o1; have := hS.o2; omega
      by_cases han : a < 0
      · by_cases hbn : b < 0
        · skip
          have hfin : Hid ((q : Int) = a.fdiv b) := by
            show (q : Int) = _
            rw [← floor_like a b hb (by omega), HE.out.1, hM.out, hD.out]
          go_wp2_with (go_at_call 49; refine (told_nat q qo ql qc _ hS.mq (by omega)).mono ?_; rintro e w20 ⟨rfl, hB20⟩)
          go_ret2
          exact ⟨ret_num hfin.out, hS.bel.trans (hB20.mono hS.bel.size)⟩
        · skip
          have hfin : Hid (a.fdiv b = -(q : Int) - (if 0 < r then 1 else 0)) := by
            show a.fdiv b = _
            rw [floor_unlike a b hb (by omega), HE.out.1, HE.out.2, hM.out, hD.out]
          by_cases hr0 : 0 < r
          · have hrl := (mg_pos hS.mr).1 hr0
            have hfin2 : Hid (a.fdiv b = -(q : Int) + -1) := by
              show _ = _
              rw [hfin.out, if_pos hr0]; omega
            go_wp2_with (go_at_call 52; refine (minusN q qo ql qc _ hS.mq).mono ?_; rintro e w21 ⟨b21, o21, k21, c21, rfl, Hb21, hR21, hB21⟩; have hS21 := hS.below hB21; obtain ⟨q021, q121, qf021, qf121⟩ := hS21.bq; obtain ⟨r021, r121, rf021, rf121⟩ := hS21.br)
            have st := stored_cells (u := .bool b21) (v := .slice o21 k21 c21) q021 q121 qf021 qf121
            have hRn : w4.heap.size < w21.heap.size := Nat.lt_trans (Nat.lt_succ_self _) hS21.o4
            have hM21 := hR21.stored (b1 := b21) q021 q121 (.slice o21 k21 c21)
            have hbel21 := two_below hS21.bel hQw (.bool b21) (.slice o21 k21 c21)
            go_region_with (first
              | (go_at_call 51; refine (of_b (-1) _ (by omega) (by omega)).mono ?_; rintro e w22 ⟨b22, o22, k22, c22, rfl, Hb22, hR22, hB22⟩; have hd22 := drew_below hB22; obtain ⟨s0, s1, s2, s3⟩ := keep4 st hRn hd22)
              | (go_at_call 50; refine (plus_b (-(q : Int)) (-1) (-(q : Int) + -1) b21 b22 o21 o22 k21 c21 k22 c22 _ Hb21.out Hb22.out (by rw [Int.natAbs_neg, Int.natAbs_natCast]; exact hM21.below (Nat.le_refl _) hd22) hR22 rfl (big64 _ (by omega))).mono ?_; rintro e w23 ⟨b23, o23, k23, c23, rfl, Hb23, hR23, hB23⟩; have hd23 := hd22.trans (hB23.mono hd22.size); obtain ⟨t0, t1, t2, t3⟩ := keep4 st hRn hd23))
            all_goals
              have hM23 := hR23.stored (b1 := b23) t0 t1 (.slice o23 k23 c23)
              have hbel23 := two_below (hbel21.trans (hd23.mono (by rw [st.2.2.2.2]; exact hS21.bel.size))) hQw (.bool b23) (.slice o23 k23 c23)
              go_wp2_with (go_at_call 49; refine (told_is (-(q : Int) + -1) b23 o23 k23 c23 _ Hb23 hM23 (big60 _ (by omega))).mono ?_; rintro e w24 ⟨rfl, hB24⟩)
              go_ret2
              exact ⟨ret_num hfin2.out.symm, hbel23.trans (hB24.mono hbel23.size)⟩
          · have hrl : ¬ 0 < rl := fun h => hr0 ((mg_pos hS.mr).2 h)
            have hfin2 : Hid (a.fdiv b = -(q : Int)) := by
              show _ = _
              rw [hfin.out, if_neg hr0]; omega
            go_wp2_with (first
              | (go_at_call 52; refine (minusN q qo ql qc _ hS.mq).mono ?_; rintro e w21 ⟨b21, o21, k21, c21, rfl, Hb21, hR21, hB21⟩; have hS21 := hS.below hB21; obtain ⟨q021, q121, qf021, qf121⟩ := hS21.bq; obtain ⟨r021, r121, rf021, rf121⟩ := hS21.br; have hM21 := hR21.stored (b1 := b21) q021 q121 (.slice o21 k21 c21); have hbel21 := two_below hS21.bel hQw (.bool b21) (.slice o21 k21 c21))
              | (go_at_call 49; refine (told_is (-(q : Int)) b21 o21 k21 c21 _ Hb21 (by rw [Int.natAbs_neg, Int.natAbs_natCast]; exact hM21) (big60 _ (by omega))).mono ?_; rintro e w24 ⟨rfl, hB24⟩))
            go_ret2
            exact ⟨ret_num hfin2.out.symm, hbel21.trans (hB24.mono hbel21.size)⟩
      · by_cases hbn : b < 0
        · skip
          have hfin : Hid (a.fdiv b = -(q : Int) - (if 0 < r then 1 else 0)) := by
            show a.fdiv b = _
            rw [floor_unlike a b hb (by omega), HE.out.1, HE.out.2, hM.out, hD.out]
          by_cases hr0 : 0 < r
          · have hrl := (mg_pos hS.mr).1 hr0
            have hfin2 : Hid (a.fdiv b = -(q : Int) + -1) := by
              show _ = _
              rw [hfin.out, if_pos hr0]; omega
            go_wp2_with (go_at_call 52; refine (minusN q qo ql qc _ hS.mq).mono ?_; rintro e w21 ⟨b21, o21, k21, c21, rfl, Hb21, hR21, hB21⟩; have hS21 := hS.below hB21; obtain ⟨q021, q121, qf021, qf121⟩ := hS21.bq; obtain ⟨r021, r121, rf021, rf121⟩ := hS21.br)
            have st := stored_cells (u := .bool b21) (v := .slice o21 k21 c21) q021 q121 qf021 qf121
            have hRn : w4.heap.size < w21.heap.size := Nat.lt_trans (Nat.lt_succ_self _) hS21.o4
            have hM21 := hR21.stored (b1 := b21) q021 q121 (.slice o21 k21 c21)
            have hbel21 := two_below hS21.bel hQw (.bool b21) (.slice o21 k21 c21)
            go_region_with (first
              | (go_at_call 51; refine (of_b (-1) _ (by omega) (by omega)).mono ?_; rintro e w22 ⟨b22, o22, k22, c22, rfl, Hb22, hR22, hB22⟩; have hd22 := drew_below hB22; obtain ⟨s0, s1, s2, s3⟩ := keep4 st hRn hd22)
              | (go_at_call 50; refine (plus_b (-(q : Int)) (-1) (-(q : Int) + -1) b21 b22 o21 o22 k21 c21 k22 c22 _ Hb21.out Hb22.out (by rw [Int.natAbs_neg, Int.natAbs_natCast]; exact hM21.below (Nat.le_refl _) hd22) hR22 rfl (big64 _ (by omega))).mono ?_; rintro e w23 ⟨b23, o23, k23, c23, rfl, Hb23, hR23, hB23⟩; have hd23 := hd22.trans (hB23.mono hd22.size); obtain ⟨t0, t1, t2, t3⟩ := keep4 st hRn hd23))
            all_goals
              have hM23 := hR23.stored (b1 := b23) t0 t1 (.slice o23 k23 c23)
              have hbel23 := two_below (hbel21.trans (hd23.mono (by rw [st.2.2.2.2]; exact hS21.bel.size))) hQw (.bool b23) (.slice o23 k23 c23)
              go_wp2_with (go_at_call 49; refine (told_is (-(q : Int) + -1) b23 o23 k23 c23 _ Hb23 hM23 (big60 _ (by omega))).mono ?_; rintro e w24 ⟨rfl, hB24⟩)
              go_ret2
              exact ⟨ret_num hfin2.out.symm, hbel23.trans (hB24.mono hbel23.size)⟩
          · have hrl : ¬ 0 < rl := fun h => hr0 ((mg_pos hS.mr).2 h)
            have hfin2 : Hid (a.fdiv b = -(q : Int)) := by
              show _ = _
              rw [hfin.out, if_neg hr0]; omega
            go_wp2_with (first
              | (go_at_call 52; refine (minusN q qo ql qc _ hS.mq).mono ?_; rintro e w21 ⟨b21, o21, k21, c21, rfl, Hb21, hR21, hB21⟩; have hS21 := hS.below hB21; obtain ⟨q021, q121, qf021, qf121⟩ := hS21.bq; obtain ⟨r021, r121, rf021, rf121⟩ := hS21.br; have hM21 := hR21.stored (b1 := b21) q021 q121 (.slice o21 k21 c21); have hbel21 := two_below hS21.bel hQw (.bool b21) (.slice o21 k21 c21))
              | (go_at_call 49; refine (told_is (-(q : Int)) b21 o21 k21 c21 _ Hb21 (by rw [Int.natAbs_neg, Int.natAbs_natCast]; exact hM21) (big60 _ (by omega))).mono ?_; rintro e w24 ⟨rfl, hB24⟩))
            go_ret2
            exact ⟨ret_num hfin2.out.symm, hbel21.trans (hB24.mono hbel21.size)⟩
        · skip
          have hfin : Hid ((q : Int) = a.fdiv b) := by
            show (q : Int) = _
            rw [← floor_like a b hb (by omega), HE.out.1, hM.out, hD.out]
          go_wp2_with (go_at_call 49; refine (told_nat q qo ql qc _ hS.mq (by omega)).mono ?_; rintro e w20 ⟨rfl, hB20⟩)
          go_ret2
          exact ⟨ret_num hfin.out, hS.bel.trans (hB20.mono hS.bel.size)⟩
    · rw [show ((i + 1 : Nat) : Int) - 1 = (i : Int) from by omega]
      have hrd := hr.out
      have hSd := hS.below ((Below.refl _ _).drew)
      obtain ⟨A', hA', nA', vA', lA'⟩ := hSd.mx
      have e1 : IntKind.i64.wrap ((i : Int) / 16) = ((i / 16 : Nat) : Int) := by rw [IntKind.wrap_i64]; omega
      have e2 : IntKind.u64.wrap ((i : Int).tmod 16) = ((i % 16 : Nat) : Int) := by rw [Int.tmod_eq_emod_of_nonneg (by omega), IntKind.wrap_u64]; omega
      obtain ⟨c, hc⟩ : ∃ c, c = dg A' (i / 16) / 2 ^ (i % 16) % 2 := ⟨_, rfl⟩
      have hc1 : c ≤ 1 := by omega
      have e3 := bit_form (dg A' (i / 16)) i (dg_lt hA'.small _)
      rw [← hc] at e3
      have E3 : Hid _ := e3
      have hcm : c = m / 2 ^ i % 2 := by rw [hc, bit_at hA'.small, vA']
      have hqs := quo_step hinv.out hrd hcm
      have hqb := quo_bound hinv.out hd0 hm0
      have HQ : Hid _ := hqs
      have HS : Hid (St w wr w2.heap.size (w2.heap.size + 1) w4.heap.size (w4.heap.size + 1) o1 o2 qo ro k1 c1 k2 c2 ql qc rl rc m d q r) := hS
      obtain ⟨x0, x1, xf0, xf1⟩ := hS.bx
      obtain ⟨r0, r1, rf0, rf1⟩ := hS.br
      clear e3 hcm hqs hc vA' hinv hS nA'
      go_upto_region 8 with fail
      go_cut [] (fun wx => ∃ (o7 : Option Addr) (k7 c7 : Nat), St w wx w2.heap.size (w2.heap.size + 1) w4.heap.size (w4.heap.size + 1) o1 o2 qo o7 k1 c1 k2 c2 ql qc k7 c7 m d q (r + r + c))
      case first =>
        go_region_with (first
          | (go_at_call 80; refine (digit_at false o1 k1 c1 A' (i / 16) _ (hA'.below (Nat.le_refl _) hB5) (by omega)).mono ?_; rintro e w' ⟨rfl, rfl⟩)
          | (go_at_call 51; rw [E3.out]; refine (ofN c _ (by omega)).mono ?_; rintro e w6 ⟨o6, k6, c6, rfl, hR6, hB6⟩; have hb56 := ((Below.refl w5.heap.size w5).alloc (Nat.le_refl _) _).trans (hB6.mono (by simp)); have hS6 := hS5.below hb56)
          | (go_at_call 50; have _t := hB6; refine (plusN (r + r) c o5 o6 k5 c5 k6 c6 _ (hR5.below (Nat.le_refl _) hb56) hR6 (by omega)).mono ?_; rintro e w7 ⟨o7, k7, c7, rfl, hR7, hB7⟩; have hS7 := hS6.below hB7; obtain ⟨r07, r17, rf07, rf17⟩ := hS7.br)
          | (go_at_call 50; refine (plusN r r ro ro rl rc rl rc _ hSd.mr hSd.mr (by omega)).mono ?_; rintro e w5 ⟨o5, k5, c5, rfl, hR5, hB5⟩; have hS5 := hSd.below hB5; obtain ⟨x05, x15, xf05, xf15⟩ := hS5.bx))
        all_goals (go_wp2_with fail; go_meet; exact ⟨o7, k7, c7, hS7.setR hR7⟩)
      case rest =>
        obtain ⟨o7, k7, c7, hS8⟩ := hcut
        clear hSd hA' e1 e2 E3 HS x0 x1 xf0 xf1 r0 r1 rf0 rf1 hr
        obtain ⟨q0, q1, qf0, qf1⟩ := hS8.bq
        obtain ⟨r0, r1, rf0, rf1⟩ := hS8.br
        obtain ⟨y0, y1, yf0, yf1⟩ := hS8.bY
        have ho2 := hS8.o2
        have ho3 : ¬ w2.heap.size + 1 = w4.heap.size := by omega
        by_cases hge : d ≤ r + r + c
        · have hnew := HQ.out.1 hge
          have HNEW : Hid _ := hnew
          clear hnew HQ
          go_wp2_with (first
            | (go_at_call 50; refine (plusN q q qo qo ql qc ql qc _ hS8.mq hS8.mq (by omega)).mono ?_; rintro e w9 ⟨o9, k9, c9, rfl, hR9, hB9⟩; have hS9 := hS8.below hB9; have hS10 := hS9.setQ hR9; obtain ⟨q09, q19, qf09, qf19⟩ := hS9.bq; obtain ⟨r09, r19, rf09, rf19⟩ := hS9.br; obtain ⟨y09, y19, yf09, yf19⟩ := hS9.bY)
            | (go_at_call 78; refine (sizeN (r + r + c) d o7 o2 k7 c7 k2 c2 _ hS10.mr hS10.my).mono ?_; rintro e w11 ⟨cc, rfl, hcc, hB11⟩; have hcc0 : 0 ≤ cc := hcc.out.2 hge; have hS11 := hS10.below hB11))
          clear hS8 hS9 hS10 hR9 hB9 hB11 q0 q1 qf0 qf1 r0 r1 rf0 rf1 y0 y1 yf0 yf1 q09 q19 qf09 qf19 r09 r19 rf09 rf19 y09 y19 yf09 yf19
          obtain ⟨r011, r111, rf011, rf111⟩ := hS11.br
          obtain ⟨y011, y111, yf011, yf111⟩ := hS11.bY
          have hS11d := hS11.below ((Below.refl _ _).drew)
          go_cut [] (fun wx => ∃ (o13 : Option Addr) (k13 c13 : Nat), St w wx w2.heap.size (w2.heap.size + 1) w4.heap.size (w4.heap.size + 1) o1 o2 o9 o13 k1 c1 k2 c2 k9 c9 k13 c13 m d (q + q) (r + r + c - d))
          case first =>
            go_region_with (first
              | (go_at_call 52; refine (minusN d o2 k2 c2 _ hS11d.my).mono ?_; rintro e w12 ⟨b12, o12, k12, c12, rfl, Hb12, hR12, hB12⟩; have hS12 := hS11d.below hB12; obtain ⟨r012, r112, rf012, rf112⟩ := hS12.br)
              | (go_at_call 50; refine (subN (r + r + c) d b12 o7 o12 k7 c7 k12 c12 _ hS12.mr hR12 Hb12 (by omega) (by omega)).mono ?_; rintro e w13 ⟨o13, k13, c13, rfl, hR13, hB13⟩; have hS13 := hS12.below hB13; obtain ⟨r013, r113, rf013, rf113⟩ := hS13.br))
            all_goals (go_wp2_with fail; go_meet; exact ⟨o13, k13, c13, hS13.setR hR13⟩)
          case rest =>
            obtain ⟨o13, k13, c13, hS14⟩ := hcut
            clear hS11 hS11d r011 r111 rf011 rf111 y011 y111 yf011 yf111
            obtain ⟨q014, q114, qf014, qf114⟩ := hS14.bq
            have hS14d := hS14.below ((Below.refl _ _).drew)
            go_wp2
            go_region_with (first
              | (go_at_call 51; refine (ofN 1 _ (by omega)).mono ?_; rintro e w15 ⟨o15, k15, c15, rfl, hR15, hB15⟩; have hS15 := hS14d.below hB15; obtain ⟨q015, q115, qf015, qf115⟩ := hS15.bq)
              | (go_at_call 50; refine (plusN (q + q) 1 o9 o15 k9 c9 k15 c15 _ hS15.mq hR15 (by omega)).mono ?_; rintro e w16 ⟨o16, k16, c16, rfl, hR16, hB16⟩; have hS16 := hS15.below hB16; obtain ⟨q016, q116, qf016, qf116⟩ := hS16.bq))
            all_goals
              have hS17 := hS16.setQ hR16
              clear hS14 hS14d q014 q114 qf014 qf114
              go_wp2
              go_roundg i
              case measure => omega
              case rel => exact ⟨q + q + 1, r + r + c - d, o16, o13, k16, c16, k13, c13, by omega, rfl, hS17, HNEW.out.1, HNEW.out.2⟩
        · have hnew := HQ.out.2 hge
          have HNEW : Hid _ := hnew
          clear hnew HQ
          go_wp2_with (first
            | (go_at_call 50; refine (plusN q q qo qo ql qc ql qc _ hS8.mq hS8.mq (by omega)).mono ?_; rintro e w9 ⟨o9, k9, c9, rfl, hR9, hB9⟩; have hS9 := hS8.below hB9; have hS10 := hS9.setQ hR9; obtain ⟨q09, q19, qf09, qf19⟩ := hS9.bq; obtain ⟨r09, r19, rf09, rf19⟩ := hS9.br; obtain ⟨y09, y19, yf09, yf19⟩ := hS9.bY)
            | (go_at_call 78; refine (sizeN (r + r + c) d o7 o2 k7 c7 k2 c2 _ hS10.mr hS10.my).mono ?_; rintro e w11 ⟨cc, rfl, hcc, hB11⟩; have hcc0 : ¬ 0 ≤ cc := fun h => hge (hcc.out.1 h); have hS11 := hS10.below hB11))
          go_roundg i
          case measure => omega
          case rel => exact ⟨q + q, r + r + c, o9, o7, k9, c9, k7, c7, by omega, rfl, hS11, HNEW.out.1, HNEW.out.2⟩
end Go.Proofs.YtiapkblebbcfbaaGreat.Wd
/- The document's Rest, and ChkQuotients. -/
namespace Go.Proofs.YtiapkblebbcfbaaGreat.Chk
open Go.RowKit
open Go.Proofs.YtiapkblebbcfbaaGreat.Wd (nOf eOf)
set_option linter.unusedVariables false

theorem floor_low (a b : Int) (ha : -9223372036854775808 ≤ a) (hb : 1 ≤ b) : -9223372036854775808 ≤ a.fdiv b := by
  rw [Int.fdiv_eq_ediv_of_nonneg a (by omega)]
  by_cases h : 0 ≤ a
  · have := Int.ediv_nonneg h (show 0 ≤ b by omega); omega
  · have h1 : a ≤ a / b := by
      rw [Int.le_ediv_iff_mul_le (by omega)]
      have h2 : a * b ≤ a * 1 := Int.mul_le_mul_of_nonpos_left (by omega) hb
      omega
    omega
theorem fdiv_low (a b : Int) (hb : b ≠ 0) (ha : -9223372036854775808 ≤ a) (ha' : a ≤ 9223372036854775807) : -9223372036854775808 ≤ a.fdiv b := by
  by_cases h : 1 ≤ b
  · exact floor_low a b ha h
  · have e : a.fdiv b = (-a).fdiv (-b) := (Int.neg_fdiv_neg a b).symm
    rw [e]
    exact floor_low (-a) (-b) (by omega) (by omega)
theorem fdiv_high (a b : Int) (hb : b ≠ 0) (ha : -9223372036854775808 ≤ a) (ha' : a ≤ 9223372036854775807) (hx : ¬ (a = -9223372036854775808 ∧ b = -1)) : a.fdiv b ≤ 9223372036854775807 := by
  have h := tdiv_in a b hb ha ha' hx
  by_cases hm : a.tmod b = 0
  · rw [fdiv_same a b hm]; exact h.2
  · by_cases hA : a < 0 <;> by_cases hB : b < 0
    · rw [fdiv_like a b (by omega)]; exact h.2
    · rw [fdiv_less a b hb hm (by omega)]; omega
    · rw [fdiv_less a b hb hm (by omega)]; omega
    · rw [fdiv_like a b (by omega)]; exact h.2

theorem rest_is (a m r : Int) (w : World) (ha : -9223372036854775808 ≤ a) (ha' : a ≤ 9223372036854775807) (hm : 1 ≤ m) (hm' : m ≤ 9223372036854775807) (hr : a % m = r) :
    Calls Tryz.prog 43 #[.int .i64 a, .int .i64 m] w fun e w' => e = .returned (.tuple #[.int .i64 r, .int .i64 0]) ∧ w = w' := by
  subst hr; exact (rest_ok a m w ha ha' hm hm').mono fun e w' ⟨h1, h2⟩ => ⟨h1, h2.symm⟩
theorem ref_floor_none (a : Int) (w : World) :
    Calls Tryz.prog 53 #[.int .i64 a, .int .i64 0] w fun e w' => e = .returned (.tuple #[.int .i64 0, .int .i64 2]) ∧ w = w' := by
  go_enter Tryz.func53, Tryz.ntmps53
  go_wp2
  go_ret2
  exact ⟨rfl, rfl⟩
theorem ref_rest_none (a m : Int) (w : World) (hm : m < 1) :
    Calls Tryz.prog 28 #[.int .i64 a, .int .i64 m] w fun e w' => e = .returned (.tuple #[.int .i64 0, .int .i64 2]) ∧ w = w' := by
  go_enter Tryz.func28, Tryz.ntmps28
  go_wp2
  go_ret2
  exact ⟨rfl, rfl⟩

theorem ref_floor_at (a b q : Int) (w : World) (l0 : -9223372036854775808 ≤ a) (u0 : a ≤ 9223372036854775807) (l1 : -9223372036854775808 ≤ b) (u1 : b ≤ 9223372036854775807) (hb : ¬ b = 0) (hq : nOf (a.fdiv b) = q) :
    Calls Tryz.prog 53 #[.int .i64 a, .int .i64 b] w fun e w' => ∃ f, e = .returned (.tuple #[.int .i64 q, .int .i64 f]) ∧ Below w.heap.size w w' := by
  refine (Wd.ref_floor a b w l0 u0 l1 u1 hb).mono ?_
  rintro e w' ⟨rfl, h⟩
  exact ⟨_, by rw [hq], h⟩

set_option maxHeartbeats 1000000 in
theorem ref_rest (a m r q : Int) (w : World) (l0 : -9223372036854775808 ≤ a) (u0 : a ≤ 9223372036854775807) (l1 : 1 ≤ m) (u1 : m ≤ 9223372036854775807) (hq : Hid (nOf (a.fdiv m) = q)) (lq : -9223372036854775808 ≤ q) (uq : q ≤ 9223372036854775807)
    (hr : Hid (r = a + -(q * m))) (lr : 0 ≤ r) (ur : r < m) :
    Calls Tryz.prog 28 #[.int .i64 a, .int .i64 m] w fun e w' => e = .returned (.tuple #[.int .i64 r, .int .i64 0]) ∧ Below w.heap.size w w' := by
  have hm1 : ¬ m < 1 := by omega
  have hpb : Hid ((q * m).natAbs < 340282366920938463463374607431768211456) := Wd.prod_bound q m lq uq (by omega) u1
  have hrb : Hid (r.natAbs < 340282366920938463463374607431768211456) := by show _ < _; omega
  go_enter Tryz.func28, Tryz.ntmps28
  go_wp2_with (first
    | (go_at_call 53; refine (ref_floor_at a m q _ l0 u0 (by omega) u1 (by omega) hq.out).mono ?_; rintro e w1 ⟨f1, rfl, hB1⟩)
    | (go_at_call 51; have _t := hB3; refine (Wd.of_b _ _ (by omega) (by omega)).mono ?_; rintro e w4 ⟨b4, o4, k4, c4, rfl, Hb4, hR4, hB4⟩; have hw4 := hw3.trans (hB4.mono hw3.size))
    | (go_at_call 51; have _t := hB2; refine (Wd.of_b _ _ (by omega) (by omega)).mono ?_; rintro e w3 ⟨b3, o3, k3, c3, rfl, Hb3, hR3, hB3⟩; have hw3 := hw2.trans (hB3.mono hw2.size))
    | (go_at_call 51; refine (Wd.of_b _ _ (by omega) (by omega)).mono ?_; rintro e w2 ⟨b2, o2, k2, c2, rfl, Hb2, hR2, hB2⟩; have hw2 := hB1.trans (hB2.mono hB1.size))
    | (go_at_call 54; refine (Wd.times_b q m (q * m) b3 b4 o3 o4 k3 c3 k4 c4 _ Hb3 Hb4 (hR3.below (Nat.le_refl _) hB4) hR4 rfl (Wd.big64 _ hpb.out)).mono ?_; rintro e w5 ⟨b5, o5, k5, c5, rfl, Hb5, hR5, hB5⟩; have hw5 := hw4.trans (hB5.mono hw4.size))
    | (go_at_call 52; refine (Wd.minus_b (q * m) b5 o5 k5 c5 _ Hb5.out hR5).mono ?_; rintro e w6 ⟨b6, o6, k6, c6, rfl, Hb6, hR6, hB6⟩; have hw6 := hw5.trans (hB6.mono hw5.size))
    | (go_at_call 50; refine (Wd.plus_b a (-(q * m)) r b2 b6 o2 o6 k2 c2 k6 c6 _ Hb2.out Hb6.out ((((hR2.below (Nat.le_refl _) hB3).below (Nat.le_refl _) hB4).below (Nat.le_refl _) hB5).below (Nat.le_refl _) hB6) hR6 hr.out (Wd.big64 _ hrb.out)).mono ?_; rintro e w7 ⟨b7, o7, k7, c7, rfl, Hb7, hR7, hB7⟩; have hw7 := hw6.trans (hB7.mono hw6.size))
    | (go_at_call 49; refine (Wd.told_in r b7 o7 k7 c7 _ Hb7 hR7 ⟨by omega, by omega⟩).mono ?_; rintro e w8 ⟨rfl, hB8⟩; have hw8 := hw7.trans (hB8.mono hw7.size)))
  go_ret2
  exact ⟨rfl, hw8⟩

theorem quot_facts (a m : Int) (l0 : -9223372036854775808 ≤ a) (u0 : a ≤ 9223372036854775807) (hm : 1 ≤ m) (u1 : m ≤ 9223372036854775807) :
    ∃ q, nOf (a.fdiv m) = q ∧ -9223372036854775808 ≤ q ∧ q ≤ 9223372036854775807 ∧ a % m = a + -(q * m) ∧ 0 ≤ a % m ∧ a % m < m := by
  have hl := fdiv_low a m (by omega) l0 u0
  have hh := fdiv_high a m (by omega) l0 u0 (by omega)
  refine ⟨a.fdiv m, nOf_in ⟨hl, hh⟩, hl, hh, ?_, Int.emod_nonneg a (by omega), Int.emod_lt_of_pos a (by omega)⟩
  rw [Int.fdiv_eq_ediv_of_nonneg _ (by omega)]
  have := Int.mul_ediv_add_emod a m
  rw [Int.mul_comm] at this
  omega

end Go.Proofs.YtiapkblebbcfbaaGreat.Chk
/- The document's Atom. -/
namespace Go.Proofs.YtiapkblebbcfbaaGreat.Gl
open Go Go.RowKit
set_option linter.unusedVariables false
set_option linter.unusedSimpArgs false

def RAr (w' : World) (r : Ar) (v : Value) : Prop :=
  match r with
  | .er e => v = .tuple #[.agg zN, .int .i64 e]
  | .ok N => ∃ no co n c o d, v = .tuple #[nrV N.kd N.bd N.md no co n c o d, .int .i64 0] ∧ NrM w' N no co n c o d
theorem form5 {y : World} {p : Nat} {c0 c1 c2 c3 c4 : Value} (hR : Rb y p #[c0, c1, c2, c3, c4] 41) : y.cell? ⟨p, 0, none⟩ = some c0 ∧ y.cell? ⟨p, 1, none⟩ = some c1 ∧ y.cell? ⟨p, 2, none⟩ = some c2 ∧ y.cell? ⟨p, 3, none⟩ = some c3 ∧ y.cell? ⟨p, 4, none⟩ = some c4 :=
  ⟨(txcell hR 0 _ rfl).1, (txcell hR 1 _ rfl).1, (txcell hR 2 _ rfl).1, (txcell hR 3 _ rfl).1, (txcell hR 4 _ rfl).1⟩
theorem DSumO.below {B : Nat} {w w' : World} {r : Lr} {v : Value} (h : DSumO B w r v) (hb : Below w.heap.size w w') : DSumO B w' r v := by
  cases r with
  | er e => exact h
  | ok s =>
    obtain ⟨no, co, n, c, m, d, e, h1, hk, h2⟩ := h
    exact ⟨no, co, n, c, m, d, e, h1.below (Nat.le_refl _) hb, hk.below hb, owns_below h2 hb⟩
theorem owns_buxt {w w' : World} {B p : Nat} {t u : TypeId} {v : Value} {n : Nat} {xs vs : _} (h : w.ownsRow B t 1 v n xs) (hR : Rb w p vs u) (htu : t ≠ u) (hX : Bux p w w') : w'.ownsRow B t 1 v n xs := by
  refine ⟨h.1, ?_⟩
  rcases h.2 with h2 | ⟨g, cap, cur, e, hg, hc, h3⟩
  · exact .inl h2
  · refine .inr ⟨g, cap, cur, e, hg, (hX.block g (Array.getElem?_eq_some_iff.1 hc).1 ?_).trans hc, h3⟩
    rintro rfl
    have := hc.symm.trans hR
    simp only [Option.some.injEq, Obj.cells.injEq] at this
    exact htu this.2.1
theorem DSumO.bux {B p : Nat} {w w' : World} {r : Lr} {v : Value} {vs : Array Value} (h : DSumO B w r v) (hR : Rb w p vs 32) (hX : Bux p w w') : DSumO B w' r v := by
  cases r with
  | er e => exact h
  | ok s =>
    obtain ⟨no, co, n, c, m, d, e, h1, hk, h2⟩ := h
    exact ⟨no, co, n, c, m, d, e, rds_bx8 h1 hX (hk.ne hR (by decide)), bk_bux hk hX (hk.ne hR (by decide)), owns_buxt h2 hR (by decide) hX⟩
theorem DSumO.base {B B' : Nat} {w : World} {r : Lr} {v : Value} (h : DSumO B w r v) (hb : B' ≤ B) : DSumO B' w r v := by
  cases r with
  | er e => exact h
  | ok s =>
    obtain ⟨no, co, n, c, m, d, e, h1, hk, h2⟩ := h
    exact ⟨no, co, n, c, m, d, e, h1, hk, owns_base h2 hb⟩
theorem mkS_er {s : Sm} {e : Nat} (h : mkS s = .er e) : e = 91 := by
  unfold mkS at h
  split at h
  · cases h
  · cases h; rfl
theorem FrF.bux {w w2 w3 : World} {c0 c1 c2 c3 c4 : Value} {z : Array Value} {T : TypeId} {p : Nat} (h : FrF w w2 c0 c1 c2 c3 c4 z T) (hX : Bux p w2 w3) (hp : w.heap.size + 1 < p) : FrF w w3 c0 c1 c2 c3 c4 z T :=
  ⟨h.box.but hX (by omega), h.res.but hX (by omega), h.bel.trans (hX.below (B := w.heap.size) (by omega) (by have := h.size; omega)), Nat.le_trans h.size hX.size⟩
theorem bux_st4 {w : World} {p : Nat} (v0 v1 v2 v3 : Value) : Bux p w ((((w.setCell ⟨p, 0, none⟩ v0).setCell ⟨p, 1, none⟩ v1).setCell ⟨p, 2, none⟩ v2).setCell ⟨p, 3, none⟩ v3) := ((((Bux.refl p w).set 0 v0).set 1 v1).set 2 v2).set 3 v3
theorem cellsF {y : World} {p : Nat} {a ck : Option Addr} {l c k dk : Nat} {v ex : Int} (hR : Rb y p (sum4 a ck l c k dk v ex) 32) : (y.cell? ⟨p, 0, none⟩ = some (.slice a l c) ∧ y.frozen? ⟨p, 0, none⟩ = false) ∧ (y.cell? ⟨p, 1, none⟩ = some (.slice ck k dk) ∧ y.frozen? ⟨p, 1, none⟩ = false) ∧ (y.cell? ⟨p, 2, none⟩ = some (.int .i64 v) ∧ y.frozen? ⟨p, 2, none⟩ = false) ∧ (y.cell? ⟨p, 3, none⟩ = some (.int .i64 ex) ∧ y.frozen? ⟨p, 3, none⟩ = false) :=
  ⟨txcell hR 0 _ rfl, txcell hR 1 _ rfl, txcell hR 2 _ rfl, txcell hR 3 _ rfl⟩
theorem rsub0 (k : Int) (w : World) (h : I64 k) : Calls Tryz.prog 26 #[.int .i64 0, .int .i64 k] w fun e w' => e = .returned (.tuple #[.int .i64 (Wd.nOf (-k)), .int .i64 (Wd.eOf (-k))]) ∧ Below w.heap.size w w' := by
  have := Wd.ref_sub 0 k w (by decide) (by decide) h.1 h.2
  rw [Int.zero_sub] at this
  exact this
theorem rsub1 (k : Int) (w : World) (h : I64 k) : Calls Tryz.prog 26 #[.int .i64 k, .int .i64 1] w fun e w' => e = .returned (.tuple #[.int .i64 (Wd.nOf (k - 1)), .int .i64 (Wd.eOf (k - 1))]) ∧ Below w.heap.size w w' :=
  Wd.ref_sub k 1 w h.1 h.2 (by decide) (by decide)
/-- how an atom's sum comes to its bound -/
structure Bd (w : World) (o m : Int) (D : Lr) (A : Ar) : Prop where
  no : ∀ e, D = .er e → A = .er 91
  neg : ∀ d, D = .ok d → in64 (-d.k) = false → A = .er 91
  wide : ∀ d, D = .ok d → in64 (bdOf o d.k) = false → A = .er 91
  loose : ∀ d, D = .ok d → in64 (-d.k) = true → in64 (bdOf o d.k) = true → ¬ tight (nrOf o m d) → A = .er 91
  good : ∀ d, D = .ok d → in64 (-d.k) = true → in64 (bdOf o d.k) = true → tight (nrOf o m d) → A = .ok (nrOf o m d)
theorem bd_of {w : World} {o m : Int} {x : ByteArray} {s t : Tm} {a b : Sm} (HA : atm (.mk o x m [s, t] []) = match dfS o s t with | .er e => .er e | .ok D => finS o m D) (hD : dfS o s t = mkS (difS o a b)) : Bd w o m (mkS (difS o a b)) (atm (.mk o x m [s, t] [])) := by
  rw [hD] at HA
  refine ⟨fun e h => ?_, fun d h k => ?_, fun d h k => ?_, fun d h k1 k2 k3 => ?_, fun d h k1 k2 k3 => ?_⟩
  · rw [h] at HA; rw [HA]
    have := mkS_er h
    subst this; rfl
  · rw [h] at HA; rw [HA]; exact finS_no (fun hh => by rw [hh.1] at k; cases k)
  · rw [h] at HA; rw [HA]; exact finS_no (fun hh => by rw [hh.2] at k; cases k)
  · rw [h] at HA; rw [HA]; exact finS_wide ⟨k1, k2⟩ k3
  · rw [h] at HA; rw [HA]; exact finS_ok ⟨k1, k2⟩ k3
set_option maxRecDepth 100000 in
set_option maxHeartbeats 4000000 in
theorem ratom_bad (W : World) (f : Fm) (v : Value) (w : World) (hv : FmV W f v) (hW : Below W.heap.size W w) (h0 : ¬ chk nmB f = 0) :
    Calls Tryz.prog 11 #[v] w fun e w' => ∃ v', e = .returned v' ∧ RAr w' (atm f) v' ∧ Below w.heap.size w w' := by
  have HP := mkHid (atm_no h0)
  have hx : ((chk nmB f : Int) != 0) = true := by rw [bne_iff_ne]; omega
  have CK : Hid (∀ w', Below w.heap.size w w' → Calls Tryz.prog 24 #[v] w' fun e w'' => e = .returned (.int .i64 (chk nmB f : Nat)) ∧ Below w'.heap.size w' w'') := fun w' h => rcheck_at W f v w' hv (hW.trans (h.mono hW.size))
  obtain ⟨c0, c1, c2, c3, c4, rfl, hr⟩ := hv
  have HF := frF_new w c0 c1 c2 c3 c4 zN 44
  go_enter Tryz.func11, Tryz.ntmps11
  go_wp2_with (fail)
  generalize (w.alloc (.cells #[c0, c1, c2, c3, c4] 41)).alloc (.cells zN 44) = w2 at HF ⊢
  refine (CK.out w2 HF.bel).mono ?_
  rintro e w3 ⟨rfl, hB3⟩
  have HF3 := HF.keep hB3
  generalize chk nmB f = x at HP hx
  clear CK HF h0 hr
  obtain ⟨r0, s0⟩ := txcell HF3.res 0 _ rfl
  obtain ⟨r1, s1⟩ := txcell HF3.res 1 _ rfl
  obtain ⟨r2, s2⟩ := txcell HF3.res 2 _ rfl
  obtain ⟨r3, s3⟩ := txcell HF3.res 3 _ rfl
  obtain ⟨r4, s4⟩ := txcell HF3.res 4 _ rfl
  have hR9 := rb_five HF3.res rfl (.int .i64 0) (.slice none 0 0) (.slice none 0 0) (.int .i64 0) (.int .i64 0)
  have hB9 := mkHid (bel_st5n (B := w.heap.size + 1) HF3.bel (by omega) (.int .i64 0) (.slice none 0 0) (.slice none 0 0) (.int .i64 0) (.int .i64 0))
  go_wp2_with (fail)
  obtain ⟨k0, -⟩ := txcell hR9 0 _ rfl
  obtain ⟨k1, -⟩ := txcell hR9 1 _ rfl
  obtain ⟨k2, -⟩ := txcell hR9 2 _ rfl
  obtain ⟨k3, -⟩ := txcell hR9 3 _ rfl
  obtain ⟨k4, -⟩ := txcell hR9 4 _ rfl
  exact bodyPost_ret (v := .tuple #[.agg zN, .int .i64 (x : Nat)]) (by simp [results, Tryz.results11, go_sem, k0, k1, k2, k3, k4]) rfl ⟨_, rfl, by rw [HP.out]; rfl, hB9.out⟩
set_option maxRecDepth 100000 in
set_option maxHeartbeats 4000000 in
theorem ratom_low (W : World) (f : Fm) (v : Value) (w : World) (hv : FmV W f v) (hW : Below W.heap.size W w) (h0 : chk nmB f = 0) (h1 : f.op < 9) :
    Calls Tryz.prog 11 #[v] w fun e w' => ∃ v', e = .returned v' ∧ RAr w' (atm f) v' ∧ Below w.heap.size w w' := by
  have HP := mkHid (atm_low h0 h1)
  have CK : Hid (∀ w', Below w.heap.size w w' → Calls Tryz.prog 24 #[v] w' fun e w'' => e = .returned (.int .i64 0) ∧ Below w'.heap.size w' w'') := fun w' h => by
    have := rcheck_at W f v w' hv (hW.trans (h.mono hW.size))
    rw [h0] at this
    exact this
  obtain ⟨c0, c1, c2, c3, c4, rfl, hr⟩ := hv
  cases f with
  | mk o x m t a =>
  rw [RdF] at hr
  obtain ⟨rfl, rfl, rfl, -, ⟨ao, cap, rfl, -⟩, -⟩ := hr
  have HF := frF_new w (.int .i64 o) (.string x) (.int .i64 m) (.slice ao t.length cap) c4 zN 44
  have d9 : decide (o < 9) = true := decide_eq_true h1
  go_enter Tryz.func11, Tryz.ntmps11
  go_wp2_with (fail)
  generalize (w.alloc (.cells #[.int .i64 o, .string x, .int .i64 m, .slice ao t.length cap, c4] 41)).alloc (.cells zN 44) = w2 at HF ⊢
  refine (CK.out w2 HF.bel).mono ?_
  rintro e w3 ⟨rfl, hB3⟩
  have HF3 := HF.keep hB3
  obtain ⟨b0, b1, b2, b3, b4⟩ := form5 HF3.box
  clear CK HF h0 h1
  obtain ⟨r0, s0⟩ := txcell HF3.res 0 _ rfl
  obtain ⟨r1, s1⟩ := txcell HF3.res 1 _ rfl
  obtain ⟨r2, s2⟩ := txcell HF3.res 2 _ rfl
  obtain ⟨r3, s3⟩ := txcell HF3.res 3 _ rfl
  obtain ⟨r4, s4⟩ := txcell HF3.res 4 _ rfl
  have hR9 := rb_five HF3.res rfl (.int .i64 0) (.slice none 0 0) (.slice none 0 0) (.int .i64 0) (.int .i64 0)
  have hB9 := mkHid (bel_st5n (B := w.heap.size + 1) HF3.bel (by omega) (.int .i64 0) (.slice none 0 0) (.slice none 0 0) (.int .i64 0) (.int .i64 0))
  go_wp2_with (fail)
  obtain ⟨k0, -⟩ := txcell hR9 0 _ rfl
  obtain ⟨k1, -⟩ := txcell hR9 1 _ rfl
  obtain ⟨k2, -⟩ := txcell hR9 2 _ rfl
  obtain ⟨k3, -⟩ := txcell hR9 3 _ rfl
  obtain ⟨k4, -⟩ := txcell hR9 4 _ rfl
  exact bodyPost_ret (v := .tuple #[.agg zN, .int .i64 3]) (by simp [results, Tryz.results11, go_sem, k0, k1, k2, k3, k4]) rfl ⟨_, rfl, by rw [HP.out]; rfl, hB9.out⟩
end Go.Proofs.YtiapkblebbcfbaaGreat.Gl
