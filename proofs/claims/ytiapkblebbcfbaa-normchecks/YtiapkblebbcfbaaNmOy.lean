/- The document's Right. -/
import Derived.Test.YtiapkblebbcfbaaNmN
import Derived.Test.YtiapkblebbcfbaaCpE
import Derived.Test.YtiapkblebbcfbaaGlI
import Derived.Test.YtiapkblebbcfbaaTotals
namespace Go.Proofs.Ytiapkblebbcfbaa.Gl
open Go.RowKit
set_option linter.unusedVariables false
set_option linter.unusedSimpArgs false

theorem cells_argZ {W : World} {ad : Addr} {m c : Nat} {zs : List Int} (hR : RdZ W (some ad) m c zs) : ∀ j u, (cellsZ zs)[j]? = some u → W.cell? (ad.add j) = some u := by
  have hlen : zs.length = m := hR.eqlen
  intro j u hj
  rw [List.getElem?_map] at hj
  by_cases hjl : j < zs.length
  · rw [List.getElem?_eq_getElem hjl] at hj
    simp only [Option.map_some, Option.some.injEq] at hj
    subst hj
    obtain ⟨b, off, e, h1⟩ := hR.cell j (by omega)
    simp only [Option.some.injEq] at e
    subst e
    rw [List.getD_eq_getElem?_getD, List.getElem?_eq_getElem hjl] at h1
    rw [Go.WideShapes.add_plain]
    exact h1
  · rw [List.getElem?_eq_none (by omega)] at hj
    simp at hj
/-- 'append([]int64{d}, x...)' -/
theorem wp_oneQ {ops : Array Oper} {rest : List Oper} {o : Oper} {a : Act} {Q : Exit → Act → World → Prop} (W : World) (hgd : o.guard = none) (s x : Operand)
    (ho : o.op = .call { callee := .builtin .append, args := #[s, x], argTypes := #[24, 24] }) (d : Int)
    (hs : a.eval s = .slice (some ⟨W.heap.size, 0, none⟩) 1 1) (ao : Option Addr) (m c : Nat) (zs : List Int) (hx : a.eval x = .slice ao m c) (hR : RdZ W ao m c zs) (hm : m * 8 ≤ 140737488351232)
    (h : ∀ a' c' w', RdZ w' a' (1 + m) c' (d :: zs) → Below W.heap.size W w' → wpList Try.prog ops Q rest (a.put o.dst (.slice a' (1 + m) c')) w') : wpList Try.prog ops Q (o :: rest) a (W.alloc (.cells #[.int .i64 d] 2)) := by
  obtain ⟨i0, hi, hz0, hz1, hz2⟩ := info_parts Try.infoI64
  have hheap : (W.alloc (.cells #[.int .i64 d] 2)).heap[W.heap.size]? = some (.cells #[.int .i64 d] 2 (0, 0)) := rb_new W _ _
  have hown : (W.alloc (.cells #[.int .i64 d] 2)).ownsRow W.heap.size 2 1 (.slice (some ⟨W.heap.size, 0, none⟩) 1 1) 1 (cellsZ [d]) := ⟨by simp [cellsZ], .inr ⟨W.heap.size, 1, #[.int .i64 d], rfl, Nat.le_refl _, hheap, Nat.le_refl _, by unfold maxLen; omega, rfl, rfl⟩⟩
  have hB1 := bal W (.cells #[.int .i64 d] 2)
  have hlen : zs.length = m := hR.eqlen
  cases ao with
  | none =>
    have hc0 := hR.isnil rfl
    have hl := hR.lecap
    obtain rfl : c = 0 := hc0
    obtain rfl : m = 0 := by omega
    have hz : zs = [] := List.length_eq_zero_iff.1 hlen
    subst hz
    refine wpList_append_own_none hgd s x 24 ho W.heap.size 2 i0 1 Try.underlying24 hi _ 1 (cellsZ [d]) hs hown hx ?_
    obtain ⟨ro, cr, hv, hR'⟩ := rdz_of_owns hown
    simp only [Value.slice.injEq] at hv
    obtain ⟨rfl, -, rfl⟩ := hv
    exact h _ _ _ hR' hB1
  | some ad =>
    have hR1 := hR.below (Nat.le_refl _) hB1
    refine wpList_append_own _ hgd s x 24 ho W.heap.size 2 i0 (.int .i64 0) 1 8 Try.underlying24 hi hz0 hz1 hz2 rfl (by decide) _ 1 (cellsZ [d]) hs hown ad m c (cellsZ zs) hx (by simp [hlen]) (cells_argZ hR1) (ints_oneCell _ _) (by unfold maxLen; omega) (by omega) (by rw [World.size_alloc]; omega) ?_
    intro v' w' h2 h3 h4
    have h2' : w'.ownsRow W.heap.size 2 1 v' (1 + m) (cellsZ (d :: zs)) := by simpa [cellsZ] using h2
    obtain ⟨ro, cr, rfl, hR'⟩ := rdz_of_owns h2'
    refine h _ _ w' hR' ?_
    refine hB1.grown h3 (by rw [World.size_alloc]; omega) ?_
    intro k hk
    simp only [Value.ownBlock, Option.some.injEq] at hk
    omega

set_option maxHeartbeats 4000000 in
theorem right_at (N : Nr) (no co : Option Addr) (n c o d : Nat) (r : Bool) (w : World) (h : NrM w N no co n c o d) (hm : o * 8 ≤ 140737488351232) (hk : I64 N.kd) (hmd : I64 N.md) (hr : r = true ↔ nrOk N) :
    Calls Try.prog 8 #[nrV N.kd N.bd N.md no co n c o d] w fun e w' => e = .returned (.bool r) ∧ Below w.heap.size w w' := by
  have hln : N.ns.length = n := h.ns.eqlen
  have hlo : N.cs.length = o := h.cs.eqlen
  have hoc := h.cs.lecap
  have hdm := h.cs.lemax
  have hncc := h.ns.lecap
  have hncm := h.ns.lemax
  have hB1 := bal w (.cells (nrA N.kd N.bd N.md no co n c o d) 26)
  have hR1 := rb_new w (nrA N.kd N.bd N.md no co n c o d) 26
  obtain ⟨b2, hb2⟩ := bool_of (Rise N.ns)
  have RI : Hid (∀ w', Below w.heap.size w w' → Calls Try.prog 19 #[.slice no n c] w' fun e w'' => e = .returned (.bool b2) ∧ Below w'.heap.size w' w'') := fun w' hw => rrises_at no n c N.ns b2 w' ((h.below hw).ns) h.short hb2
  by_cases hk0 : N.kd < 0
  · have hf : r = false := by
      cases r with
      | false => rfl
      | true => have := (hr.1 rfl).1; omega
    subst hf
    have d0 : decide (N.kd < 0) = true := decide_eq_true hk0
    clear hr RI
    go_enter Try.func8, Try.ntmps8
    go_wp2
    go_ret
    exact ⟨rfl, hB1⟩
  have d0 : decide (N.kd < 0) = false := decide_eq_false hk0
  by_cases hk2 : 2 < N.kd
  · have hf : r = false := by
      cases r with
      | false => rfl
      | true => have := (hr.1 rfl).1; omega
    subst hf
    have d1 : decide (2 < N.kd) = true := decide_eq_true hk2
    clear hr RI
    go_enter Try.func8, Try.ntmps8
    go_wp2
    go_ret
    exact ⟨rfl, hB1⟩
  have d1 : decide (2 < N.kd) = false := decide_eq_false hk2
  go_enter Try.func8, Try.ntmps8
  go_wp2_with (fail)
  generalize w.alloc (.cells (nrA N.kd N.bd N.md no co n c o d) 26) = w1 at hB1 hR1 ⊢
  refine (RI.out w1 hB1).mono ?_
  rintro e w2 ⟨rfl, hB2⟩
  have hB12 := bt2 hB1 hB2
  have hR2 := hR1.keep hB2
  have r1 : w2.cell? ⟨w.heap.size, 1, none⟩ = some (.slice no n c) := (txcell (vs := nrA N.kd N.bd N.md no co n c o d) hR2 1 _ rfl).1
  have r2 : w2.cell? ⟨w.heap.size, 2, none⟩ = some (.slice co o d) := (txcell (vs := nrA N.kd N.bd N.md no co n c o d) hR2 2 _ rfl).1
  have r3 : w2.cell? ⟨w.heap.size, 3, none⟩ = some (.int .i64 N.bd) := (txcell (vs := nrA N.kd N.bd N.md no co n c o d) hR2 3 _ rfl).1
  cases b2 with
  | false =>
    have hf : r = false := by
      cases r with
      | false => rfl
      | true => have := hb2.2 (hr.1 rfl).2.1; simp at this
    subst hf
    clear hr RI hb2
    go_wp2
    go_ret
    exact ⟨rfl, hB12⟩
  | true =>
    have hRise := mkHid (hb2.1 rfl)
    clear hb2 RI
    by_cases hno : n = o
    · subst hno
      have hq : ((n : Int) != (n : Int)) = false := by simp
      have hco2 : RdZ w2 co n d N.cs := h.cs.below (Nat.le_refl _) hB12
      have hT : Hid (∀ a4 c4 (w4 : World), RdZ w4 a4 (1 + n) c4 (N.bd :: N.cs) → ∃ x er : Int, ((er = 0 ∧ tight N) ∨ (er ≠ 0 ∧ ¬ tight N)) ∧ Calls Try.prog 20 #[.slice a4 (1 + n) c4] w4 fun e w' => e = .returned (.tuple #[.int .i64 x, .int .i64 er]) ∧ Below w4.heap.size w4 w') := by
        intro a4 c4 w4 hR4
        have hrow := row_of_rdz hR4 (by
          intro z hz
          rcases List.mem_cons.1 hz with rfl | hz
          · exact h.bd
          · exact h.i64 z hz) (by unfold maxLen; omega)
        refine ⟨_, _, ?_, Chk.ref_total _ _ w4 hrow (by rw [List.length_cons, hlo]; omega)⟩
        have e : Chk.tot (N.bd :: N.cs) = N.bd.natAbs + Chk.tot N.cs := rfl
        unfold tight tot Chk.errT
        rw [e]
        by_cases ht : N.bd.natAbs + Chk.tot N.cs ≤ 9223372036854775807
        · left; exact ⟨if_pos ht, by omega⟩
        · right; rw [if_neg ht]; exact ⟨by decide, by omega⟩
      have r2' : (w2.alloc (.cells #[.int .i64 N.bd] 2)).cell? ⟨w.heap.size, 2, none⟩ = some (.slice co n d) := (txcell (vs := nrA N.kd N.bd N.md no co n c n d) (hR2.keep (bal w2 _)) 2 _ rfl).1
      go_wp2_with (at_builtin; refine wp_oneQ w2 rfl (.tmp 33) (.tmp 35) rfl N.bd rfl co n d N.cs rfl hco2 hm ?_; intro a4 c4 w4 hR4 hB4)
      obtain ⟨x, er, hE, hC⟩ := hT.out a4 c4 w4 hR4
      refine hC.mono ?_
      rintro e w5 ⟨rfl, hB5⟩
      have hB25 := bt2 hB4 hB5
      have hB15 := bt2 hB12 hB25
      have hR5 := hR2.keep hB25
      clear r1 r2 r2' r3 hT hR4 hC hB4 hB5 hco2
      have r0 : w5.cell? ⟨w.heap.size, 0, none⟩ = some (.int .i64 N.kd) := (txcell (vs := nrA N.kd N.bd N.md no co n c n d) hR5 0 _ rfl).1
      have r2 : w5.cell? ⟨w.heap.size, 2, none⟩ = some (.slice co n d) := (txcell (vs := nrA N.kd N.bd N.md no co n c n d) hR5 2 _ rfl).1
      have r3 : w5.cell? ⟨w.heap.size, 3, none⟩ = some (.int .i64 N.bd) := (txcell (vs := nrA N.kd N.bd N.md no co n c n d) hR5 3 _ rfl).1
      have r4 : w5.cell? ⟨w.heap.size, 4, none⟩ = some (.int .i64 N.md) := (txcell (vs := nrA N.kd N.bd N.md no co n c n d) hR5 4 _ rfl).1
      have hC5 : RdZ w5 co n d N.cs := h.cs.below (Nat.le_refl _) hB15
      rcases hE with ⟨rfl, ht⟩ | ⟨hne, ht⟩
      · have HT := mkHid ht
        clear ht
        by_cases k2 : N.kd = 2
        · have hq1 : (N.kd != 2) = false := by rw [k2]; rfl
          have hq2 : (N.kd == 2) = true := by rw [k2]; rfl
          have HK := mkHid k2
          clear k2
          have no_ : ¬ (1 ≤ N.md ∧ 0 ≤ N.bd ∧ N.bd < N.md) → r = false := fun hn => by
            cases r with
            | false => rfl
            | true => have := (hr.1 rfl).2.2.2.2.2 HK.out; exact absurd ⟨this.1, this.2.1, this.2.2.1⟩ hn
          by_cases m1 : N.md < 1
          · obtain rfl := no_ (by omega)
            have e1 : decide (N.md < 1) = true := decide_eq_true m1
            clear hr no_
            go_wp2
            go_ret
            exact ⟨rfl, hB15⟩
          have e1 : decide (N.md < 1) = false := decide_eq_false m1
          by_cases m2 : N.bd < 0
          · obtain rfl := no_ (by omega)
            have e2 : decide (N.bd < 0) = true := decide_eq_true m2
            clear hr no_
            go_wp2
            go_ret
            exact ⟨rfl, hB15⟩
          have e2 : decide (N.bd < 0) = false := decide_eq_false m2
          by_cases m3 : N.md ≤ N.bd
          · obtain rfl := no_ (by omega)
            have e3 : decide (N.md ≤ N.bd) = true := decide_eq_true m3
            clear hr no_
            go_wp2
            go_ret
            exact ⟨rfl, hB15⟩
          have e3 : decide (N.md ≤ N.bd) = false := decide_eq_false m3
          clear no_
          have HR : Hid (r = true ↔ ∀ z ∈ N.cs, 0 ≤ z ∧ z < N.md) := by
            refine hr.trans ⟨fun hh => (hh.2.2.2.2.2 HK.out).2.2.2, fun hh => ⟨.inr (.inr HK.out), hRise.out, by rw [hlo, hln], HT.out, fun hne => absurd HK.out hne, fun _ => ⟨by omega, by omega, by omega, hh⟩⟩⟩
          clear hr
          have HC : Hid (∀ i, i < n → ∃ b off, co = some ⟨b, off, none⟩ ∧ w5.cell? ⟨b, off + i, none⟩ = some (.int .i64 (N.cs.getD i 0))) := hC5.cell
          have HL := mkHid hlo
          have HI : Hid (∀ i, I64 (N.cs.getD i 0)) := fun i => by
            by_cases hi : i < N.cs.length
            · exact h.i64 _ (by rw [List.getD_eq_getElem?_getD, List.getElem?_eq_getElem hi]; exact List.getElem_mem hi)
            · rw [List.getD_eq_getElem?_getD, List.getElem?_eq_none (by omega)]; constructor <;> simp
          clear hC5 hlo hln
          go_wp2
          clear e2 e3 e1 hq1 r3 r0 r2 r4
          go_loopw [6] (fun t wr => ∃ k : Nat, k ≤ n ∧ t = .int .i64 k ∧ Hid (∀ j, j < k → 0 ≤ N.cs.getD j 0 ∧ N.cs.getD j 0 < N.md) ∧ Below w5.heap.size w5 wr) (fun t _ => n - (intOf t).toNat)
          case atStart => exact ⟨0, Nat.zero_le _, rfl, (fun j hj => absurd hj (Nat.not_lt_zero _)), Below.refl _ _⟩
          case round =>
            obtain ⟨k, hkn, rfl, hz, hW⟩ := hrel
            have hBr := bt2 hB15 hW
            have hRr := hR5.keep hW
            have r2 : wr.cell? ⟨w.heap.size, 2, none⟩ = some (.slice co n d) := (txcell (vs := nrA N.kd N.bd N.md no co n c n d) hRr 2 _ rfl).1
            have r4 : wr.cell? ⟨w.heap.size, 4, none⟩ = some (.int .i64 N.md) := (txcell (vs := nrA N.kd N.bd N.md no co n c n d) hRr 4 _ rfl).1
            clear hRr
            by_cases hp : k < n
            · obtain ⟨b, off, rfl, hc5⟩ := HC.out k hp
              have hc := (hW.cell (p := ⟨b, off + k, none⟩) (World.block_lt_of_cell? _ _ hc5)).trans hc5
              have hi := HI.out k
              have no_ : ¬ (0 ≤ N.cs.getD k 0 ∧ N.cs.getD k 0 < N.md) → r = false := fun hn => by
                cases r with
                | false => rfl
                | true =>
                  refine absurd (HR.out.1 rfl _ ?_) hn
                  have hlt : k < N.cs.length := by rw [HL.out]; exact hp
                  rw [List.getD_eq_getElem?_getD, List.getElem?_eq_getElem hlt]; exact List.getElem_mem hlt
              have ok_ : Hid ((0 ≤ N.cs.getD k 0 ∧ N.cs.getD k 0 < N.md) → ∀ j, j < k + 1 → 0 ≤ N.cs.getD j 0 ∧ N.cs.getD j 0 < N.md) := fun hh j hj => by
                by_cases e : j = k
                · subst e; exact hh
                · exact hz.out j (by omega)
              generalize hzz : N.cs.getD k 0 = z at hc5 hc hi no_
              have OK : Hid (0 ≤ z ∧ z < N.md → ∀ j, j < k + 1 → 0 ≤ N.cs.getD j 0 ∧ N.cs.getD j 0 < N.md) := fun hh => ok_.out (by rw [hzz]; exact hh)
              clear ok_ hzz HC HI hz hc5
              by_cases z0 : z < 0
              · obtain rfl := no_ (by omega)
                have e1 : decide (z < 0) = true := decide_eq_true z0
                clear no_ HR
                go_wp2
                go_region
                go_wp2
                go_ret
                exact ⟨rfl, hBr.drew⟩
              have e1 : decide (z < 0) = false := decide_eq_false z0
              by_cases z1 : N.md ≤ z
              · obtain rfl := no_ (by omega)
                have e2 : decide (N.md ≤ z) = true := decide_eq_true z1
                clear no_ HR
                go_wp2
                go_region
                go_wp2
                go_ret
                exact ⟨rfl, hBr.drew⟩
              have e2 : decide (N.md ≤ z) = false := decide_eq_false z1
              go_wp2
              go_region
              go_wp2
              go_round
              case rel => exact ⟨k + 1, by omega, by go_num, OK.out ⟨by omega, by omega⟩, hW.drew⟩
              case measure => simp [intOf]; omega
            · obtain rfl : k = n := by omega
              have hf : r = true := HR.out.2 (fun z hz' => by
                obtain ⟨j, hj, rfl⟩ := List.mem_iff_getElem.1 hz'
                have := hz.out j (by rw [← HL.out]; exact hj)
                rw [List.getD_eq_getElem?_getD, List.getElem?_eq_getElem hj] at this
                exact this)
              subst hf
              go_wp2
              go_ret
              exact ⟨rfl, hBr⟩
        · have hq1 : (N.kd != 2) = true := by rw [bne_iff_ne]; exact k2
          have hq2 : (N.kd == 2) = false := by rw [beq_eq_false_iff_ne]; exact k2
          by_cases m0 : N.md = 0
          · have hf : r = true := hr.2 ⟨by omega, hRise.out, by rw [hlo, hln], HT.out, fun _ => m0, fun hh => absurd hh k2⟩
            subst hf
            have e1 : (N.md != 0) = false := by rw [m0]; rfl
            clear hr m0 k2
            go_wp2
            refine wp_loop_rounds 1 ?_
            rw [rounds_succ]
            by_cases hp : 0 < n
            · have e2 : decide (0 < (n : Int)) = true := by simp; omega
              go_wp2
              go_ret
              exact ⟨rfl, hB15⟩
            · have e2 : decide (0 < (n : Int)) = false := by simp; omega
              go_wp2
              go_ret
              exact ⟨rfl, hB15⟩
          · have hf : r = false := by
              cases r with
              | false => rfl
              | true => exact absurd ((hr.1 rfl).2.2.2.2.1 k2) m0
            subst hf
            have e1 : (N.md != 0) = true := by rw [bne_iff_ne]; exact m0
            clear hr m0 k2
            go_wp2
            go_ret
            exact ⟨rfl, hB15⟩
      · have hf : r = false := by
          cases r with
          | false => rfl
          | true => exact absurd (hr.1 rfl).2.2.2.1 ht
        subst hf
        have hq3 : (er != 0) = true := by rw [bne_iff_ne]; exact hne
        clear hr ht hne
        go_wp2
        go_ret
        exact ⟨rfl, hB15⟩
    · have hf : r = false := by
        cases r with
        | false => rfl
        | true => have := (hr.1 rfl).2.2.1; omega
      subst hf
      have hq : ((n : Int) != (o : Int)) = true := by rw [bne_iff_ne]; omega
      clear hr
      go_wp2
      go_ret
      exact ⟨rfl, hB12⟩
end Go.Proofs.Ytiapkblebbcfbaa.Gl
