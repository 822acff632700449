/- The document's Work: what it needs. -/
import Derived.Test.YtiapkblebbcfbaaGreatNmCb
import Derived.Test.YtiapkblebbcfbaaGreatNmCc
import Derived.Test.YtiapkblebbcfbaaGreatNmH
namespace Go.Proofs.YtiapkblebbcfbaaGreat.Gl
open Go Go.RowKit
set_option linter.unusedVariables false
set_option linter.unusedSimpArgs false

theorem DSum.below {w w' : World} {r : Lr} {v : Value} (h : DSum w r v) (hb : Below w.heap.size w w') : DSum w' r v := by
  cases r with
  | er e => exact h
  | ok s =>
    obtain ⟨no, co, n, c, m, d, e, h1, h2, h3, h4⟩ := h
    exact ⟨no, co, n, c, m, d, e, h1.below (Nat.le_refl _) hb, h2.below (Nat.le_refl _) hb, h3.below hb, h4.below hb⟩
theorem DSum.shape {w : World} {r : Lr} {v : Value} (h : DSum w r v) : ∃ no co n c m d k e, v = .agg (sum4 no co n c m d k e) := by
  cases r with
  | er e =>
    obtain ⟨no, co, n, c, m, d, k, rfl, -⟩ := h
    exact ⟨no, co, n, c, m, d, k, _, rfl⟩
  | ok s =>
    obtain ⟨no, co, n, c, m, d, rfl, -⟩ := h
    exact ⟨no, co, n, c, m, d, _, _, rfl⟩
/-- a sum that is stored into a block of sums -/
theorem DSum.st4 {w : World} {r : Lr} {v : Value} {R : Nat} {vs : Array Value} (h : DSum w r v) (hR : Rb w R vs 32) (v0 v1 v2 v3 : Value) : DSum ((((w.setCell ⟨R, 0, none⟩ v0).setCell ⟨R, 1, none⟩ v1).setCell ⟨R, 2, none⟩ v2).setCell ⟨R, 3, none⟩ v3) r v := by
  cases r with
  | er e => exact h
  | ok s =>
    obtain ⟨no, co, n, c, m, d, e, h1, h2, h3, h4⟩ := h
    have k3 := h3.ne hR (by decide)
    have k4 := h4.ne hR (by decide)
    exact ⟨no, co, n, c, m, d, e, rds_other (rds_st3 h1 k3 v0 v1 v2) k3 3 v3, rdz_other (rdz_st3 h2 k4 v0 v1 v2) k4 3 v3, bk_set (bk_set (bk_set (bk_set h3 k3 0 v0) k3 1 v1) k3 2 v2) k3 3 v3, bk_set (bk_set (bk_set (bk_set h4 k4 0 v0) k4 1 v1) k4 2 v2) k4 3 v3⟩
def WorkC (t : Tm) : Prop := ∀ (W : World) (v : Value) (w : World), TmV W t v → Below W.heap.size W w → t.size ≤ 500 →
  Calls Tryz.prog 17 #[v] w fun e w' => ∃ v', e = .returned v' ∧ DSum w' (lin t) v' ∧ Below w.heap.size w w'
structure FrW (w w2 : World) (c0 c1 c2 c3 : Value) : Prop where
  box : Rb w2 w.heap.size #[c0, c1, c2, c3] 25
  res : Rb w2 (w.heap.size + 1) z4 32
  bel : Below w.heap.size w w2
  size : w.heap.size + 2 ≤ w2.heap.size
theorem FrW.keep {w w2 w3 : World} {c0 c1 c2 c3 : Value} (h : FrW w w2 c0 c1 c2 c3) (hb : Below w2.heap.size w2 w3) : FrW w w3 c0 c1 c2 c3 :=
  ⟨h.box.keep hb, h.res.keep hb, bt2 h.bel hb, Nat.le_trans h.size hb.size⟩
theorem frw_new (w : World) (c0 c1 c2 c3 : Value) : FrW w ((w.alloc (.cells #[c0, c1, c2, c3] 25)).alloc (.cells z4 32)) c0 c1 c2 c3 := by
  have h1 := rb_new w #[c0, c1, c2, c3] 25
  have h2 := rb_new (w.alloc (.cells #[c0, c1, c2, c3] 25)) z4 32
  rw [show (w.alloc (.cells #[c0, c1, c2, c3] 25)).heap.size = w.heap.size + 1 from by simp] at h2
  exact ⟨h1.keep (bal _ _), h2, bt2 (bal w _) (bal _ _), by simp⟩
theorem term4 {y : World} {p : Nat} {c0 c1 c2 c3 : Value} (hR : Rb y p #[c0, c1, c2, c3] 25) : y.cell? ⟨p, 0, none⟩ = some c0 ∧ y.cell? ⟨p, 1, none⟩ = some c1 ∧ y.cell? ⟨p, 2, none⟩ = some c2 ∧ y.cell? ⟨p, 3, none⟩ = some c3 :=
  ⟨(txcell hR 0 _ rfl).1, (txcell hR 1 _ rfl).1, (txcell hR 2 _ rfl).1, (txcell hR 3 _ rfl).1⟩
theorem Tryz.infoSum : (Tryz.prog.info? 32).map (fun i => (i.zero, i.size, i.bytes)) = some (some (.agg z4), 4, 64) := by kernel_rfl
/-- 'parts = append(parts, s)' -/
theorem wp_push4 {ops : Array Oper} {rest : List Oper} {o : Oper} {a : Act} {Q : Exit → Act → World → Prop} (Wc : World) (base : Nat) (hgd : o.guard = none) (s x : Operand)
    (ho : o.op = .call { callee := .builtin .append, args := #[s, x], argTypes := #[84, 84] }) (v : Value) (k : Nat) (xs : List Value) (hs : a.eval s = v) (g : Nat) (hx : a.eval x = .slice (some ⟨g, 0, none⟩) 1 1)
    (no co : Option Addr) (n c m d : Nat) (kk e : Int) (hown : Wc.ownsRow base 32 4 v k xs) (hcell : Rb Wc g (sum4 no co n c m d kk e) 32) (hbase : base ≤ Wc.heap.size) (hk : k ≤ 1000)
    (h : ∀ g' c' w', w'.ownsRow base 32 4 (.slice (some ⟨g', 0, none⟩) (k + 1) c') (k + 1) (xs ++ [.slice no n c, .slice co m d, .int .i64 kk, .int .i64 e]) → Below base Wc w' → (∀ p vs t, t ≠ 32 → Rb Wc p vs t → Rb w' p vs t) → wpList Tryz.prog ops Q rest (a.put o.dst (.slice (some ⟨g', 0, none⟩) (k + 1) c')) w') : wpList Tryz.prog ops Q (o :: rest) a Wc := by
  obtain ⟨i0, hi, hz0, hz1, hz2⟩ := info_parts Tryz.infoSum
  refine wpList_append_own _ hgd s x 84 ho base 32 i0 (.agg z4) 4 64 Tryz.underlying84 hi hz0 hz1 hz2 rfl (by decide) _ k _ hs hown ⟨g, 0, none⟩ 1 1 [.slice no n c, .slice co m d, .int .i64 kk, .int .i64 e] hx rfl ?_ ?_ (by unfold maxLen; omega) (by omega) hbase ?_
  · intro j u hj
    have ej : (⟨g, 0, none⟩ : Addr).add j = ⟨g, j, none⟩ := by cases j <;> simp [Addr.add]
    rw [ej]
    exact (txcell (vs := sum4 no co n c m d kk e) hcell j u (by simpa using hj)).1
  · intro u hu
    simp only [List.mem_cons, List.not_mem_nil, or_false] at hu
    rcases hu with rfl | rfl | rfl | rfl <;> rfl
  · intro v' w' h2 h3 h4
    obtain ⟨g', c', rfl⟩ : ∃ g' c', v' = .slice (some ⟨g', 0, none⟩) (k + 1) c' := by
      rcases h2.2 with ⟨rfl, h0⟩ | ⟨g', cap, cur, rfl, -⟩
      · omega
      · exact ⟨_, _, rfl⟩
    refine h g' c' w' h2 ((Below.refl base Wc).grown h3 hbase fun q hq => (hown.lt q hq).1) ?_
    intro p vs t ht hp
    refine (h3.block p (Array.getElem?_eq_some_iff.1 hp).1 ?_).trans hp
    intro e
    rcases hown.2 with ⟨rfl, -⟩ | ⟨g, cap, cur, rfl, hb, hg, -⟩
    · cases e
    · simp only [Value.ownBlock, Option.some.injEq] at e
      subst e
      have := hg.symm.trans hp
      simp only [Option.some.injEq, Obj.cells.injEq] at this
      exact ht this.2.1.symm
theorem rds_ty {w w' : World} {a : Option Addr} {n c : Nat} {T : List ByteArray} {t u : TypeId} (h : RdS w a n c T) (hK : Bk w a t) (htu : t ≠ u) (hk : ∀ p vs t, t ≠ u → Rb w p vs t → Rb w' p vs t) : RdS w' a n c T := by
  refine ⟨h.eqlen, h.lecap, h.lemax, h.isnil, fun i hi => ?_⟩
  obtain ⟨b, off, rfl, hc⟩ := h.cell i hi
  obtain ⟨cur, hb⟩ := hK _ rfl
  exact ⟨b, off, rfl, (World.cell?_of_block ((hk b cur t htu hb).trans hb.symm)).trans hc⟩
theorem rdz_ty {w w' : World} {a : Option Addr} {n c : Nat} {T : List Int} {t u : TypeId} (h : RdZ w a n c T) (hK : Bk w a t) (htu : t ≠ u) (hk : ∀ p vs t, t ≠ u → Rb w p vs t → Rb w' p vs t) : RdZ w' a n c T := by
  refine ⟨h.eqlen, h.lecap, h.lemax, h.isnil, fun i hi => ?_⟩
  obtain ⟨b, off, rfl, hc⟩ := h.cell i hi
  obtain ⟨cur, hb⟩ := hK _ rfl
  exact ⟨b, off, rfl, (World.cell?_of_block ((hk b cur t htu hb).trans hb.symm)).trans hc⟩
theorem bk_ty {w w' : World} {a : Option Addr} {t u : TypeId} (hK : Bk w a t) (htu : t ≠ u) (hk : ∀ p vs t, t ≠ u → Rb w p vs t → Rb w' p vs t) : Bk w' a t := fun ad e => by
  obtain ⟨cur, hb⟩ := hK ad e
  exact ⟨cur, hk _ cur t htu hb⟩
theorem st4_cell {y : World} {g R : Nat} (hne : g ≠ R) {j : Nat} {x : Value} (h : y.cell? ⟨g, j, none⟩ = some x) (v0 v1 v2 v3 : Value) : ((((y.setCell ⟨R, 0, none⟩ v0).setCell ⟨R, 1, none⟩ v1).setCell ⟨R, 2, none⟩ v2).setCell ⟨R, 3, none⟩ v3).cell? ⟨g, j, none⟩ = some x := by
  rw [World.cell?_of_block (w := y)]
  · exact h
  · exact (Below.heap_setCell _ _ _ g hne).trans ((Below.heap_setCell _ _ _ g hne).trans ((Below.heap_setCell _ _ _ g hne).trans (Below.heap_setCell _ _ _ g hne)))
theorem owns4_below {w w' : World} {base : Nat} {e : TypeId} {v : Value} {n : Nat} {xs : List Value} (h : w.ownsRow base e 4 v n xs) (hb : Below w.heap.size w w') : w'.ownsRow base e 4 v n xs := by
  refine ⟨h.1, ?_⟩
  rcases h.2 with h2 | ⟨g, cap, cur, e, hg, hc, h3⟩
  · exact .inl h2
  · exact .inr ⟨g, cap, cur, e, hg, (hb.block g (Array.getElem?_eq_some_iff.1 hc).1).trans hc, h3⟩
theorem parts1 {w : World} {base g c : Nat} {t : TypeId} {u0 u1 u2 u3 : Value} (h : w.ownsRow base t 4 (.slice (some ⟨g, 0, none⟩) 1 c) 1 [u0, u1, u2, u3]) : w.cell? ⟨g, 0, none⟩ = some u0 ∧ w.cell? ⟨g, 1, none⟩ = some u1 ∧ w.cell? ⟨g, 2, none⟩ = some u2 ∧ w.cell? ⟨g, 3, none⟩ = some u3 :=
  have hc := h.cells (g := g) rfl
  ⟨by simpa [Addr.add] using hc 0 _ rfl, by simpa [Addr.add] using hc 1 _ rfl, by simpa [Addr.add] using hc 2 _ rfl, by simpa [Addr.add] using hc 3 _ rfl⟩
theorem parts2 {w : World} {base g c : Nat} {t : TypeId} {u0 u1 u2 u3 x0 x1 x2 x3 : Value} (h : w.ownsRow base t 4 (.slice (some ⟨g, 0, none⟩) 2 c) 2 [u0, u1, u2, u3, x0, x1, x2, x3]) : (w.cell? ⟨g, 0, none⟩ = some u0 ∧ w.cell? ⟨g, 1, none⟩ = some u1 ∧ w.cell? ⟨g, 2, none⟩ = some u2 ∧ w.cell? ⟨g, 3, none⟩ = some u3) ∧ (w.cell? ⟨g, 4, none⟩ = some x0 ∧ w.cell? ⟨g, 5, none⟩ = some x1 ∧ w.cell? ⟨g, 6, none⟩ = some x2 ∧ w.cell? ⟨g, 7, none⟩ = some x3) :=
  have hc := h.cells (g := g) rfl
  ⟨⟨by simpa [Addr.add] using hc 0 _ rfl, by simpa [Addr.add] using hc 1 _ rfl, by simpa [Addr.add] using hc 2 _ rfl, by simpa [Addr.add] using hc 3 _ rfl⟩, ⟨by simpa [Addr.add] using hc 4 _ rfl, by simpa [Addr.add] using hc 5 _ rfl, by simpa [Addr.add] using hc 6 _ rfl, by simpa [Addr.add] using hc 7 _ rfl⟩⟩
theorem owns_cap {w : World} {base g n c : Nat} {t : TypeId} {z : Nat} {xs : List Value} (h : w.ownsRow base t z (.slice (some ⟨g, 0, none⟩) n c) n xs) : n ≤ c ∧ c ≤ 9223372036854775807 := by
  rcases h.2 with ⟨hv, -⟩ | ⟨g', cap, cur, hv, -, -, h1, h2, -⟩
  · cases hv
  · simp only [Value.slice.injEq] at hv
    obtain ⟨-, -, rfl⟩ := hv
    exact ⟨h1, by unfold maxLen at h2; omega⟩
theorem eq_size (W : World) (o : Obj) : (W.alloc o).heap.size = W.heap.size + 1 := by simp
end Go.Proofs.YtiapkblebbcfbaaGreat.Gl
/- The document's Work: numbers, names, negation. -/
namespace Go.Proofs.YtiapkblebbcfbaaGreat.Gl
open Go Go.RowKit
set_option linter.unusedVariables false
set_option linter.unusedSimpArgs false

set_option maxRecDepth 100000 in
set_option maxHeartbeats 4000000 in
theorem work_num (n : Int) (hn : 0 ≤ n) : WorkC (.mk 0 n emp []) := by
  rintro W v w ⟨c0, c1, c2, c3, rfl, hr⟩ hW hsz
  rw [RdT] at hr
  obtain ⟨rfl, rfl, rfl, ⟨-, hi, -⟩, ao, cap, rfl, -, -, -⟩ := hr
  have HL : Hid (lin (.mk 0 n emp []) = .ok ⟨[], [], n⟩) := by show _ = _; rw [lin_num]; exact mkS_yes (by show (([] : List Int).all in64 && in64 n) = true; rw [(in64_iff n).2 hi]; rfl)
  have HF := mkHid (frw_new w (.int .i64 0) (.int .i64 n) (.string emp) (.slice ao 0 cap))
  go_enter Tryz.func17, Tryz.ntmps17
  go_wp2_with (fail)
  have hB : Below w.heap.size w ((w.alloc (.cells #[.int .i64 0, .int .i64 n, .string emp, .slice ao 0 cap] 25)).alloc (.cells #[.slice none 0 0, .slice none 0 0, .int .i64 n, .int .i64 0] 32)) := bt2 (bal _ _) (bal _ _)
  refine bodyPost_ret (v := .agg #[.slice none 0 0, .slice none 0 0, .int .i64 n, .int .i64 0]) (by simp [results, Tryz.results17, go_sem]) rfl ⟨_, rfl, ?_, ?_⟩
  · rw [HL.out]
    exact ⟨none, none, 0, 0, 0, 0, rfl, rds_nil _, rdz_nil _, (fun ad e => by cases e), (fun ad e => by cases e)⟩
  · first
      | exact hB
      | exact bt2 (bal _ _) (bal _ _)
      | exact HF.out.bel.setCell (p := ⟨w.heap.size + 1, 2, none⟩) (by show w.heap.size ≤ w.heap.size + 1; omega) _
      | exact (bel_st3 HF.out.bel (by omega) _ _ _).setCell (p := ⟨w.heap.size + 1, 3, none⟩) (by show w.heap.size ≤ w.heap.size + 1; omega) _
set_option maxRecDepth 100000 in
set_option maxHeartbeats 4000000 in
theorem work_name (x : ByteArray) (hx : nmB x = true) : WorkC (.mk 1 0 x []) := by
  rintro W v w ⟨c0, c1, c2, c3, rfl, hr⟩ hW hsz
  rw [RdT] at hr
  obtain ⟨rfl, rfl, rfl, -, ao, cap, rfl, -, -, -⟩ := hr
  have HF := mkHid (frw_new w (.int .i64 1) (.int .i64 0) (.string x) (.slice ao 0 cap))
  go_enter Tryz.func17, Tryz.ntmps17
  go_wp2_with (fail)
  have hS := rds_built ((w.alloc (.cells #[.int .i64 1, .int .i64 0, .string x, .slice ao 0 cap] 25)).alloc (.cells #[.slice (some ⟨w.heap.size + 1 + 1, 0, none⟩) 1 1, .slice (some ⟨w.heap.size + 1 + 1 + 1, 0, none⟩) 1 1, .int .i64 0, .int .i64 0] 32)) [x] 1 9 (w.heap.size + 1 + 1) (by simp) rfl (by decide)
  have hZ := rdz_built (((w.alloc (.cells #[.int .i64 1, .int .i64 0, .string x, .slice ao 0 cap] 25)).alloc (.cells #[.slice (some ⟨w.heap.size + 1 + 1, 0, none⟩) 1 1, .slice (some ⟨w.heap.size + 1 + 1 + 1, 0, none⟩) 1 1, .int .i64 0, .int .i64 0] 32)).alloc (.cells #[.string x] 9)) [1] 1 2 (w.heap.size + 1 + 1 + 1) (by simp) rfl (by decide)
  have hK := rb_new ((w.alloc (.cells #[.int .i64 1, .int .i64 0, .string x, .slice ao 0 cap] 25)).alloc (.cells #[.slice (some ⟨w.heap.size + 1 + 1, 0, none⟩) 1 1, .slice (some ⟨w.heap.size + 1 + 1 + 1, 0, none⟩) 1 1, .int .i64 0, .int .i64 0] 32)) #[.string x] 9
  have hC := rb_new (((w.alloc (.cells #[.int .i64 1, .int .i64 0, .string x, .slice ao 0 cap] 25)).alloc (.cells #[.slice (some ⟨w.heap.size + 1 + 1, 0, none⟩) 1 1, .slice (some ⟨w.heap.size + 1 + 1 + 1, 0, none⟩) 1 1, .int .i64 0, .int .i64 0] 32)).alloc (.cells #[.string x] 9)) #[.int .i64 1] 2
  rw [eq_size, eq_size] at hK
  rw [eq_size, eq_size, eq_size] at hC
  have hB : Below w.heap.size w ((((w.alloc (.cells #[.int .i64 1, .int .i64 0, .string x, .slice ao 0 cap] 25)).alloc (.cells #[.slice (some ⟨w.heap.size + 1 + 1, 0, none⟩) 1 1, .slice (some ⟨w.heap.size + 1 + 1 + 1, 0, none⟩) 1 1, .int .i64 0, .int .i64 0] 32)).alloc (.cells #[.string x] 9)).alloc (.cells #[.int .i64 1] 2)) := bt2 (bt2 (bt2 (bal w _) (bal _ _)) (bal _ _)) (bal _ _)
  refine bodyPost_ret (v := .agg #[.slice (some ⟨w.heap.size + 1 + 1, 0, none⟩) 1 1, .slice (some ⟨w.heap.size + 1 + 1 + 1, 0, none⟩) 1 1, .int .i64 0, .int .i64 0]) (by simp [results, Tryz.results17, go_sem]) rfl ⟨_, rfl, ?_, hB⟩
  rw [lin_name]
  refine ⟨_, _, 1, 1, 1, 1, rfl, hS.below (Nat.le_refl _) (bal _ _), hZ, fun ad e => ?_, fun ad e => ?_⟩
  · cases e
    exact ⟨_, hK.keep (bal _ _)⟩
  · cases e
    exact ⟨_, hC⟩
set_option maxRecDepth 100000 in
set_option maxHeartbeats 4000000 in
theorem work_neg (t : Tm) (ht : t.all (wellT nmB) = true) (ih : WorkC t) : WorkC (.mk 2 0 emp [t]) := by
  rintro W v w ⟨c0, c1, c2, c3, rfl, hr⟩ hW hsz
  rw [RdT] at hr
  obtain ⟨rfl, rfl, rfl, -, ao, cap, rfl, hcap, hcm, hk⟩ := hr
  obtain ⟨g, of, d0, d1, d2, d3, rfl, q0, q1, q2, q3, hrt, hg⟩ := one_kid hk
  have hst : t.size ≤ 499 := by have := hsz; simp only [Tm.size, Tm.sizeL] at this; omega
  have hcap' : 1 ≤ cap := hcap
  have HG : Hid (∀ p, lin t = .ok p → p.good nmB 500) := fun p hp => (lin_good nmB t ht p hp).mono (by omega)
  have HE : Hid (∀ e, lin t = .er e → e = 90 ∨ e = 91) := lin_er nmB t ht
  have HN : Hid _ := lin_neg 0 emp t
  have HF := frw_new w (.int .i64 2) (.int .i64 0) (.string emp) (.slice (some ⟨g, of, none⟩) 1 cap)
  go_enter Tryz.func17, Tryz.ntmps17
  go_wp2_with (fail)
  generalize (w.alloc (.cells #[.int .i64 2, .int .i64 0, .string emp, .slice (some ⟨g, of, none⟩) 1 cap] 25)).alloc (.cells z4 32) = w2 at HF ⊢
  have hW2 : Below W.heap.size W w2 := hW.trans (HF.bel.mono hW.size)
  have C := mkHid (ih W (.agg #[d0, d1, d2, d3]) w2 ⟨_, _, _, _, rfl, hrt⟩ hW2 (by omega))
  have p0 : w2.cell? ⟨g, of, none⟩ = some d0 := (hW2.cell (p := ⟨g, of, none⟩) hg).trans q0
  have p1 : w2.cell? ⟨g, of + 1, none⟩ = some d1 := (hW2.cell (p := ⟨g, of + 1, none⟩) hg).trans q1
  have p2 : w2.cell? ⟨g, of + 2, none⟩ = some d2 := (hW2.cell (p := ⟨g, of + 2, none⟩) hg).trans q2
  have p3 : w2.cell? ⟨g, of + 3, none⟩ = some d3 := (hW2.cell (p := ⟨g, of + 3, none⟩) hg).trans q3
  obtain ⟨b0, b1, b2, b3⟩ := term4 HF.box
  clear ih q0 q1 q2 q3 hrt hk
  refine wp_loop_rounds 3 ?_
  rw [rounds_succ]
  go_wp2_with (fail)
  refine C.out.mono ?_
  rintro e w3 ⟨v', rfl, hL, hB3⟩
  have HF3 := HF.keep hB3
  clear C p0 p1 p2 p3 b0 b1 b2 b3 HF
  cases hl : lin t with
  | er e =>
    rw [hl] at hL
    obtain ⟨no, co, n, c, m, d, k, rfl, he⟩ := hL
    have hx : ((e : Int) != 0) = true := by rw [bne_iff_ne]; omega
    have HR : Hid (lin (.mk 2 0 emp [t]) = .er e) := by have := HN.out; rw [hl] at this; exact this
    have HF4 := HF3.keep (bal w3 (.cells (sum4 no co n c m d k e) 32))
    clear HG HE HN
    have hDS : DSum (w3.alloc (.cells (sum4 no co n c m d k e) 32)) (lin (.mk 2 0 emp [t])) (.agg (sum4 no co n c m d k e)) := by rw [HR.out]; exact ⟨no, co, n, c, m, d, k, rfl, he⟩
    obtain ⟨⟨z0, y0⟩, ⟨z1, y1⟩, ⟨z2, y2⟩, ⟨z3, y3⟩⟩ := cellsZ4 HF4.res
    have hR9 := rb_four HF4.res rfl (.slice no n c) (.slice co m d) (.int .i64 k) (.int .i64 (e : Nat))
    have hD9 := mkHid (hDS.st4 HF4.res (.slice no n c) (.slice co m d) (.int .i64 k) (.int .i64 (e : Nat)))
    have hB9 := mkHid ((bel_st3 HF4.bel (show w.heap.size ≤ w.heap.size + 1 by omega) (.slice no n c) (.slice co m d) (.int .i64 k)).setCell (p := ⟨w.heap.size + 1, 3, none⟩) (show w.heap.size ≤ w.heap.size + 1 by omega) (.int .i64 (e : Nat)))
    go_wp2_with (fail)
    obtain ⟨k0, k1, k2, k3⟩ := cells4 hR9
    exact bodyPost_ret (v := .agg #[.slice no n c, .slice co m d, .int .i64 k, .int .i64 (e : Nat)]) (by simp [results, Tryz.results17, go_sem, k0, k1, k2, k3]) rfl ⟨_, rfl, hD9.out, hB9.out⟩
  | ok s =>
    rw [hl] at hL
    obtain ⟨no, co, n, c, m, d, rfl, hN, hZ, hK, hC⟩ := hL
    have HR : Hid (lin (.mk 2 0 emp [t]) = mkS (cmb (bop true) nilS s)) := by have := HN.out; rw [hl] at this; exact this
    have gS := HG.out s hl
    clear HG HE HN
    have hB4 := bt2 (bal w3 (.cells (sum4 no co n c m d s.k 0) 32)) (bal (w3.alloc (.cells (sum4 no co n c m d s.k 0) 32)) (.cells (sum4 no co n c m d s.k 0) 32))
    have hRs := rb_new (w3.alloc (.cells (sum4 no co n c m d s.k 0) 32)) (sum4 no co n c m d s.k 0) 32
    rw [eq_size] at hRs
    go_wp2_with (at_builtin; refine wp_push4 _ w3.heap.size rfl (.tmp 37) (.tmp 39) rfl _ 0 [] rfl (w3.heap.size + 1) rfl no co n c m d s.k 0 (World.ownsRow_nil _ _ _ _) hRs (by simp <;> omega) (by omega) ?_; intro g4 c4 w4 hO4 hB5 hT5)
    simp only [Nat.zero_add, List.nil_append] at hO4
    have hB35 := hB4.trans hB5
    have HF4 := HF3.keep hB35
    have hN4 := hN.below (Nat.le_refl _) hB35
    have hZ4 := hZ.below (Nat.le_refl _) hB35
    obtain ⟨b0, b1, b2, b3⟩ := term4 HF4.box
    obtain ⟨q0, q1, q2, q3⟩ := parts1 hO4
    obtain ⟨hc4, hc4'⟩ := owns_cap hO4
    have hnn : n ≤ 500 := by have := gS.few; rw [hN.eqlen] at this; exact this
    have hmn : m = n := by have := gS.len; rw [hN.eqlen, hZ.eqlen] at this; exact this
    have C5 := mkHid (rplus_at nilS s none none no co 0 0 0 0 n c m d true w4 (rds_nil _) (rdz_nil _) hN4 hZ4 (by omega) (by omega) (by decide) gS.fit rfl hmn)
    clear hO4 hB4 hB5 hRs hN hZ hK hC hN4 hZ4 gS HF3 hmn
    rw [rounds_succ]
    go_wp2_with (fail)
    refine C5.out.mono ?_
    rintro e w5 ⟨v5, rfl, hS5, hB6⟩
    obtain ⟨no5, co5, n5, c5, m5, d5, k5, e5, rfl⟩ := hS5.sum.shape
    have HF5 := HF4.keep hB6
    have hDS : DSum w5 (lin (.mk 2 0 emp [t])) (.agg (sum4 no5 co5 n5 c5 m5 d5 k5 e5)) := by rw [HR.out]; exact hS5.sum
    clear C5 b0 b1 b2 b3 q0 q1 q2 q3 hS5
    obtain ⟨⟨z0, y0⟩, ⟨z1, y1⟩, ⟨z2, y2⟩, ⟨z3, y3⟩⟩ := cellsZ4 HF5.res
    have hR9 := rb_four HF5.res rfl (.slice no5 n5 c5) (.slice co5 m5 d5) (.int .i64 k5) (.int .i64 e5)
    have hD9 := mkHid (hDS.st4 HF5.res (.slice no5 n5 c5) (.slice co5 m5 d5) (.int .i64 k5) (.int .i64 e5))
    have hB9 := mkHid ((bel_st3 HF5.bel (show w.heap.size ≤ w.heap.size + 1 by omega) (.slice no5 n5 c5) (.slice co5 m5 d5) (.int .i64 k5)).setCell (p := ⟨w.heap.size + 1, 3, none⟩) (show w.heap.size ≤ w.heap.size + 1 by omega) (.int .i64 e5))
    go_wp2_with (fail)
    obtain ⟨k0, k1, k2, k3⟩ := cells4 hR9
    exact bodyPost_ret (v := .agg #[.slice no5 n5 c5, .slice co5 m5 d5, .int .i64 k5, .int .i64 e5]) (by simp [results, Tryz.results17, go_sem, k0, k1, k2, k3]) rfl ⟨_, rfl, hD9.out, hB9.out⟩
end Go.Proofs.YtiapkblebbcfbaaGreat.Gl
/- The document's Work: sums. -/
namespace Go.Proofs.YtiapkblebbcfbaaGreat.Gl
open Go Go.RowKit
set_option linter.unusedVariables false
set_option linter.unusedSimpArgs false

set_option maxRecDepth 100000 in
set_option maxHeartbeats 40000000 in
theorem work_two3 (t u : Tm) (ht : t.all (wellT nmB) = true) (hu : u.all (wellT nmB) = true) (ih : WorkC t) (ihu : WorkC u) : WorkC (.mk 3 0 emp [t, u]) := by
  rintro W v w ⟨c0, c1, c2, c3, rfl, hr⟩ hW hsz
  rw [RdT] at hr
  obtain ⟨rfl, rfl, rfl, -, ao, cap, rfl, hcap, hcm, hk⟩ := hr
  obtain ⟨g, of, d0, d1, d2, d3, f0, f1, f2, f3, rfl, q0, q1, q2, q3, hrt, t0, t1, t2, t3, hru, hg⟩ := two_kids hk
  have hst : t.size + u.size ≤ 499 := by have := hsz; simp only [Tm.size, Tm.sizeL] at this; omega
  have hcap' : 2 ≤ cap := hcap
  have HG : Hid (∀ p, lin t = .ok p → p.good nmB 500) := fun p hp => (lin_good nmB t ht p hp).mono (by omega)
  have HE : Hid (∀ e, lin t = .er e → e = 90 ∨ e = 91) := lin_er nmB t ht
  have HGu : Hid (∀ p, lin u = .ok p → p.good nmB 500) := fun p hp => (lin_good nmB u hu p hp).mono (by omega)
  have HEu : Hid (∀ e, lin u = .er e → e = 90 ∨ e = 91) := lin_er nmB u hu
  have HN : Hid _ := lin_two (o := 3) (by decide) 0 emp t u
  have HF := frw_new w (.int .i64 3) (.int .i64 0) (.string emp) (.slice (some ⟨g, of, none⟩) 2 cap)
  go_enter Tryz.func17, Tryz.ntmps17
  go_wp2_with (fail)
  generalize (w.alloc (.cells #[.int .i64 3, .int .i64 0, .string emp, .slice (some ⟨g, of, none⟩) 2 cap] 25)).alloc (.cells z4 32) = w2 at HF ⊢
  have hW2 : Below W.heap.size W w2 := hW.trans (HF.bel.mono hW.size)
  have C := mkHid (ih W (.agg #[d0, d1, d2, d3]) w2 ⟨_, _, _, _, rfl, hrt⟩ hW2 (by omega))
  have CU : Hid (∀ w', Below W.heap.size W w' → Calls Tryz.prog 17 #[.agg #[f0, f1, f2, f3]] w' fun e w'' => ∃ v', e = .returned v' ∧ DSum w'' (lin u) v' ∧ Below w'.heap.size w' w'') := fun w' h => ihu W (.agg #[f0, f1, f2, f3]) w' ⟨_, _, _, _, rfl, hru⟩ h (by omega)
  have p0 : w2.cell? ⟨g, of, none⟩ = some d0 := (hW2.cell (p := ⟨g, of, none⟩) hg).trans q0
  have p1 : w2.cell? ⟨g, of + 1, none⟩ = some d1 := (hW2.cell (p := ⟨g, of + 1, none⟩) hg).trans q1
  have p2 : w2.cell? ⟨g, of + 2, none⟩ = some d2 := (hW2.cell (p := ⟨g, of + 2, none⟩) hg).trans q2
  have p3 : w2.cell? ⟨g, of + 3, none⟩ = some d3 := (hW2.cell (p := ⟨g, of + 3, none⟩) hg).trans q3
  have TU : Hid (∀ y : World, Below W.heap.size W y → y.cell? ⟨g, of + 4, none⟩ = some f0 ∧ y.cell? ⟨g, of + 5, none⟩ = some f1 ∧ y.cell? ⟨g, of + 6, none⟩ = some f2 ∧ y.cell? ⟨g, of + 7, none⟩ = some f3) := fun y hy => ⟨(hy.cell (p := ⟨g, of + 4, none⟩) hg).trans t0, (hy.cell (p := ⟨g, of + 5, none⟩) hg).trans t1, (hy.cell (p := ⟨g, of + 6, none⟩) hg).trans t2, (hy.cell (p := ⟨g, of + 7, none⟩) hg).trans t3⟩
  obtain ⟨b0, b1, b2, b3⟩ := term4 HF.box
  clear ih ihu q0 q1 q2 q3 hrt hk t0 t1 t2 t3 hru
  refine wp_loop_rounds 3 ?_
  rw [rounds_succ]
  go_wp2_with (fail)
  refine C.out.mono ?_
  rintro e w3 ⟨v', rfl, hL, hB3⟩
  have HF3 := HF.keep hB3
  clear C p0 p1 p2 p3 b0 b1 b2 b3 HF
  cases hl : lin t with
  | er e =>
    rw [hl] at hL
    obtain ⟨no, co, n, c, m, d, k, rfl, he⟩ := hL
    have hx : ((e : Int) != 0) = true := by rw [bne_iff_ne]; omega
    have HR : Hid (lin (.mk 3 0 emp [t, u]) = .er e) := by have := HN.out; rw [hl] at this; exact this
    have HF4 := HF3.keep (bal w3 (.cells (sum4 no co n c m d k e) 32))
    clear HG HE HN HGu HEu CU TU
    have hDS : DSum (w3.alloc (.cells (sum4 no co n c m d k e) 32)) (lin (.mk 3 0 emp [t, u])) (.agg (sum4 no co n c m d k e)) := by rw [HR.out]; exact ⟨no, co, n, c, m, d, k, rfl, he⟩
    obtain ⟨⟨z0, y0⟩, ⟨z1, y1⟩, ⟨z2, y2⟩, ⟨z3, y3⟩⟩ := cellsZ4 HF4.res
    have hR9 := rb_four HF4.res rfl (.slice no n c) (.slice co m d) (.int .i64 k) (.int .i64 (e : Nat))
    have hD9 := mkHid (hDS.st4 HF4.res (.slice no n c) (.slice co m d) (.int .i64 k) (.int .i64 (e : Nat)))
    have hB9 := mkHid ((bel_st3 HF4.bel (show w.heap.size ≤ w.heap.size + 1 by omega) (.slice no n c) (.slice co m d) (.int .i64 k)).setCell (p := ⟨w.heap.size + 1, 3, none⟩) (show w.heap.size ≤ w.heap.size + 1 by omega) (.int .i64 (e : Nat)))
    go_wp2_with (fail)
    obtain ⟨k0, k1, k2, k3⟩ := cells4 hR9
    exact bodyPost_ret (v := .agg #[.slice no n c, .slice co m d, .int .i64 k, .int .i64 (e : Nat)]) (by simp [results, Tryz.results17, go_sem, k0, k1, k2, k3]) rfl ⟨_, rfl, hD9.out, hB9.out⟩
  | ok s =>
    rw [hl] at hL
    obtain ⟨no, co, n, c, m, d, rfl, hN, hZ, hK, hC⟩ := hL
    have gS := HG.out s hl
    clear HG HE
    have hB4 := bt2 (bal w3 (.cells (sum4 no co n c m d s.k 0) 32)) (bal (w3.alloc (.cells (sum4 no co n c m d s.k 0) 32)) (.cells (sum4 no co n c m d s.k 0) 32))
    have hRs := rb_new (w3.alloc (.cells (sum4 no co n c m d s.k 0) 32)) (sum4 no co n c m d s.k 0) 32
    rw [eq_size] at hRs
    go_wp2_with (at_builtin; refine wp_push4 _ w3.heap.size rfl (.tmp 37) (.tmp 39) rfl _ 0 [] rfl (w3.heap.size + 1) rfl no co n c m d s.k 0 (World.ownsRow_nil _ _ _ _) hRs (by simp <;> omega) (by omega) ?_; intro g4 c4 w4 hO4 hB5 hT5)
    simp only [Nat.zero_add, List.nil_append] at hO4
    have hB35 := hB4.trans hB5
    have HF4 := HF3.keep hB35
    obtain ⟨b0, b1, b2, b3⟩ := term4 HF4.box
    obtain ⟨hc4, hc4'⟩ := owns_cap hO4
    have hnn : n ≤ 500 := by have := gS.few; rw [hN.eqlen] at this; exact this
    have hmn : m = n := by have := gS.len; rw [hN.eqlen, hZ.eqlen] at this; exact this
    subst hmn
    have hW4 : Below W.heap.size W w4 := hW.trans (HF4.bel.mono hW.size)
    obtain ⟨p0, p1, p2, p3⟩ := TU.out w4 hW4
    have C := mkHid (CU.out w4 hW4)
    have HS := mkHid gS
    have hLs := mkHid hl
    have hx4 := hB35.size
    clear hB4 hB5 hRs gS CU TU hl hT5
    rw [rounds_succ]
    go_wp2_with (fail)
    refine C.out.mono ?_
    rintro e w5 ⟨v5, rfl, hL5, hB6⟩
    have HF5 := HF4.keep hB6
    clear C p0 p1 p2 p3 b0 b1 b2 b3
    cases hlu : lin u with
    | er e =>
      rw [hlu] at hL5
      obtain ⟨no', co', n', c', m', d', k, rfl, he⟩ := hL5
      have hx : ((e : Int) != 0) = true := by rw [bne_iff_ne]; omega
      have HR : Hid (lin (.mk 3 0 emp [t, u]) = .er e) := by have := HN.out; rw [hLs.out, hlu] at this; exact this
      have HF6 := HF5.keep (bal w5 (.cells (sum4 no' co' n' c' m' d' k e) 32))
      clear HN HGu HEu hLs HS
      have hDS : DSum (w5.alloc (.cells (sum4 no' co' n' c' m' d' k e) 32)) (lin (.mk 3 0 emp [t, u])) (.agg (sum4 no' co' n' c' m' d' k e)) := by rw [HR.out]; exact ⟨no', co', n', c', m', d', k, rfl, he⟩
      obtain ⟨⟨z0, y0⟩, ⟨z1, y1⟩, ⟨z2, y2⟩, ⟨z3, y3⟩⟩ := cellsZ4 HF6.res
      have hR9 := rb_four HF6.res rfl (.slice no' n' c') (.slice co' m' d') (.int .i64 k) (.int .i64 (e : Nat))
      have hD9 := mkHid (hDS.st4 HF6.res (.slice no' n' c') (.slice co' m' d') (.int .i64 k) (.int .i64 (e : Nat)))
      have hB9 := mkHid ((bel_st3 HF6.bel (show w.heap.size ≤ w.heap.size + 1 by omega) (.slice no' n' c') (.slice co' m' d') (.int .i64 k)).setCell (p := ⟨w.heap.size + 1, 3, none⟩) (show w.heap.size ≤ w.heap.size + 1 by omega) (.int .i64 (e : Nat)))
      go_wp2_with (fail)
      obtain ⟨k0, k1, k2, k3⟩ := cells4 hR9
      exact bodyPost_ret (v := .agg #[.slice no' n' c', .slice co' m' d', .int .i64 k, .int .i64 (e : Nat)]) (by simp [results, Tryz.results17, go_sem, k0, k1, k2, k3]) rfl ⟨_, rfl, hD9.out, hB9.out⟩
    | ok r =>
      rw [hlu] at hL5
      obtain ⟨no', co', n', c', m', d', rfl, hN5, hZ5, hK5, hC5⟩ := hL5
      have HR : Hid (lin (.mk 3 0 emp [t, u]) = mkS (cmb (bop false) s r)) := by have := HN.out; rw [hLs.out, hlu] at this; exact this
      have gR := HGu.out r hlu
      clear HGu HEu HN hLs
      have hB7 := bt2 (bal w5 (.cells (sum4 no' co' n' c' m' d' r.k 0) 32)) (bal (w5.alloc (.cells (sum4 no' co' n' c' m' d' r.k 0) 32)) (.cells (sum4 no' co' n' c' m' d' r.k 0) 32))
      have hRs := rb_new (w5.alloc (.cells (sum4 no' co' n' c' m' d' r.k 0) 32)) (sum4 no' co' n' c' m' d' r.k 0) 32
      rw [eq_size] at hRs
      have hO5 := owns4_below (owns4_below hO4 hB6) hB7
      have hx3 := hB35.size
      have hx5 := hB6.size
      go_wp2_with (at_builtin; refine wp_push4 _ w3.heap.size rfl (.tmp 37) (.tmp 39) rfl _ 1 _ rfl (w5.heap.size + 1) rfl no' co' n' c' m' d' r.k 0 hO5 hRs (by simp <;> omega) (by omega) ?_; intro g6 c6 w6 hO6 hB8 hT8)
      simp only [Nat.reduceAdd, List.cons_append, List.nil_append] at hO6
      have hB56 : Below w3.heap.size w5 w6 := (hB7.mono (by omega)).trans hB8
      have hB46 : Below w3.heap.size w4 w6 := (hB6.mono (by omega)).trans hB56
      have hB36 := hB35.trans hB46
      have HF6 := HF3.keep hB36
      have hN6 := hN.below (Nat.le_refl _) hB36
      have hZ6 := hZ.below (Nat.le_refl _) hB36
      have hK6 := hK.below hB36
      have M6 := rds_ty (hN5.below (Nat.le_refl _) hB7) (hK5.below hB7) (by decide) hT8
      have Z6 := rdz_ty (hZ5.below (Nat.le_refl _) hB7) (hC5.below hB7) (by decide) hT8
      have L6 := bk_ty (hK5.below hB7) (by decide) hT8
      obtain ⟨b0, b1, b2, b3⟩ := term4 HF6.box
      obtain ⟨⟨q0, q1, q2, q3⟩, q4, q5, q6, q7⟩ := parts2 hO6
      obtain ⟨hc6, hc6'⟩ := owns_cap hO6
      have hnn' : n' ≤ 500 := by have := gR.few; rw [hN5.eqlen] at this; exact this
      have hmn' : m' = n' := by have := gR.len; rw [hN5.eqlen, hZ5.eqlen] at this; exact this
      subst hmn'
      have hgR : g6 ≠ w.heap.size + 1 := by
        have h1 := (hO6.lt g6 rfl).1
        have h2 := HF3.size
        omega
      have PX : Hid (∀ y : World, Below w6.heap.size w6 y → (y.cell? ⟨g6, 0, none⟩ = some (.slice no m c) ∧ y.cell? ⟨g6, 1, none⟩ = some (.slice co m d) ∧ y.cell? ⟨g6, 2, none⟩ = some (.int .i64 s.k) ∧ y.cell? ⟨g6, 3, none⟩ = some (.int .i64 0)) ∧ y.cell? ⟨g6, 4, none⟩ = some (.slice no' m' c') ∧ y.cell? ⟨g6, 5, none⟩ = some (.slice co' m' d') ∧ y.cell? ⟨g6, 6, none⟩ = some (.int .i64 r.k) ∧ y.cell? ⟨g6, 7, none⟩ = some (.int .i64 0)) := fun y hy => parts2 (owns4_below hO6 hy)
      have fS := HS.out.fit
      have fR := gR.fit
      clear hB7 hRs hO4 hO5 hN hZ hK hC hN5 hZ5 hK5 hC5 hT8 hB8 hB6 hB46 hB56 hB36 hB35 hB3 HF3 HF4 HF5 HS gR
      rw [rounds_succ]
      go_wp2_with (fail)
      have hD6 : Below w6.heap.size w6 w6.drew := (Below.refl _ _).drew
      clear q0 q1 q2 q3 q4 q5 q6 q7 b0 b1 b2 b3
      have CP : Hid (∀ y : World, Below w6.heap.size w6 y → Calls Tryz.prog 25 #[.agg (sum4 no co m c m d s.k 0), .agg (sum4 no' co' m' c' m' d' r.k 0), .bool false] y fun e w' => ∃ v, e = .returned v ∧ DSum w' (lin (.mk 3 0 emp [t, u])) v ∧ Below y.heap.size y w') := by
        intro y hy
        refine (rplus_at s r no co no' co' m c m d m' c' m' d' false y (hN6.below (Nat.le_refl _) hy) (hZ6.below (Nat.le_refl _) hy) (M6.below (Nat.le_refl _) hy) (Z6.below (Nat.le_refl _) hy) (by omega) (by omega) fS fR rfl rfl).mono ?_
        rintro e w' ⟨v, rfl, h1, h2⟩
        exact ⟨v, rfl, by rw [HR.out]; exact h1.sum, h2⟩
      clear HR hN6 hZ6 hK6 M6 Z6 L6
      go_region_held3 (fun y => (y.cell? ⟨g6, 0, none⟩ = some (.slice no m c) ∧ y.cell? ⟨g6, 1, none⟩ = some (.slice co m d) ∧ y.cell? ⟨g6, 2, none⟩ = some (.int .i64 s.k) ∧ y.cell? ⟨g6, 3, none⟩ = some (.int .i64 0)) ∧ y.cell? ⟨g6, 4, none⟩ = some (.slice no' m' c') ∧ y.cell? ⟨g6, 5, none⟩ = some (.slice co' m' d') ∧ y.cell? ⟨g6, 6, none⟩ = some (.int .i64 r.k) ∧ y.cell? ⟨g6, 7, none⟩ = some (.int .i64 0)) (first | exact PX.out _ hD6 | exact PX.out _ hE7 | exact PS.out _ _ _ _ | fail)
        (first | (go_at_call 25; refine (CP.out _ hD6).mono ?_; rintro e w7 ⟨v7, rfl, hS7, hB7⟩; obtain ⟨no5, co5, n5, c5, m5, d5, k5, e5, rfl⟩ := hS7.shape; have hE7 := bt2 hD6 hB7; have HF7 := HF6.keep hE7; obtain ⟨⟨z0, y0⟩, ⟨z1, y1⟩, ⟨z2, y2⟩, ⟨z3, y3⟩⟩ := cellsZ4 HF7.res; obtain ⟨⟨q0, q1, q2, q3⟩, q4, q5, q6, q7⟩ := PX.out _ hE7; have PS := mkHid (fun v0 v1 v2 v3 => (⟨⟨st4_cell hgR q0 v0 v1 v2 v3, st4_cell hgR q1 v0 v1 v2 v3, st4_cell hgR q2 v0 v1 v2 v3, st4_cell hgR q3 v0 v1 v2 v3⟩, st4_cell hgR q4 v0 v1 v2 v3, st4_cell hgR q5 v0 v1 v2 v3, st4_cell hgR q6 v0 v1 v2 v3, st4_cell hgR q7 v0 v1 v2 v3⟩ : (_ ∧ _ ∧ _ ∧ _) ∧ _ ∧ _ ∧ _ ∧ _)); have hR9 := rb_four HF7.res rfl (.slice no5 n5 c5) (.slice co5 m5 d5) (.int .i64 k5) (.int .i64 e5); have hD9 := mkHid (hS7.st4 HF7.res (.slice no5 n5 c5) (.slice co5 m5 d5) (.int .i64 k5) (.int .i64 e5)); have hB9 := mkHid ((bel_st3 HF7.bel (show w.heap.size ≤ w.heap.size + 1 by omega) (.slice no5 n5 c5) (.slice co5 m5 d5) (.int .i64 k5)).setCell (p := ⟨w.heap.size + 1, 3, none⟩) (show w.heap.size ≤ w.heap.size + 1 by omega) (.int .i64 e5))))
      go_wp2_with (fail)
      obtain ⟨k0, k1, k2, k3⟩ := cells4 hR9
      exact bodyPost_ret (v := .agg #[.slice no5 n5 c5, .slice co5 m5 d5, .int .i64 k5, .int .i64 e5]) (by simp [results, Tryz.results17, go_sem, k0, k1, k2, k3]) rfl ⟨_, rfl, hD9.out, hB9.out⟩
end Go.Proofs.YtiapkblebbcfbaaGreat.Gl
/- The document's Work: differences. -/
namespace Go.Proofs.YtiapkblebbcfbaaGreat.Gl
open Go Go.RowKit
set_option linter.unusedVariables false
set_option linter.unusedSimpArgs false

set_option maxRecDepth 100000 in
set_option maxHeartbeats 40000000 in
theorem work_two4 (t u : Tm) (ht : t.all (wellT nmB) = true) (hu : u.all (wellT nmB) = true) (ih : WorkC t) (ihu : WorkC u) : WorkC (.mk 4 0 emp [t, u]) := by
  rintro W v w ⟨c0, c1, c2, c3, rfl, hr⟩ hW hsz
  rw [RdT] at hr
  obtain ⟨rfl, rfl, rfl, -, ao, cap, rfl, hcap, hcm, hk⟩ := hr
  obtain ⟨g, of, d0, d1, d2, d3, f0, f1, f2, f3, rfl, q0, q1, q2, q3, hrt, t0, t1, t2, t3, hru, hg⟩ := two_kids hk
  have hst : t.size + u.size ≤ 499 := by have := hsz; simp only [Tm.size, Tm.sizeL] at this; omega
  have hcap' : 2 ≤ cap := hcap
  have HG : Hid (∀ p, lin t = .ok p → p.good nmB 500) := fun p hp => (lin_good nmB t ht p hp).mono (by omega)
  have HE : Hid (∀ e, lin t = .er e → e = 90 ∨ e = 91) := lin_er nmB t ht
  have HGu : Hid (∀ p, lin u = .ok p → p.good nmB 500) := fun p hp => (lin_good nmB u hu p hp).mono (by omega)
  have HEu : Hid (∀ e, lin u = .er e → e = 90 ∨ e = 91) := lin_er nmB u hu
  have HN : Hid _ := lin_two (o := 4) (by decide) 0 emp t u
  have HF := frw_new w (.int .i64 4) (.int .i64 0) (.string emp) (.slice (some ⟨g, of, none⟩) 2 cap)
  go_enter Tryz.func17, Tryz.ntmps17
  go_wp2_with (fail)
  generalize (w.alloc (.cells #[.int .i64 4, .int .i64 0, .string emp, .slice (some ⟨g, of, none⟩) 2 cap] 25)).alloc (.cells z4 32) = w2 at HF ⊢
  have hW2 : Below W.heap.size W w2 := hW.trans (HF.bel.mono hW.size)
  have C := mkHid (ih W (.agg #[d0, d1, d2, d3]) w2 ⟨_, _, _, _, rfl, hrt⟩ hW2 (by omega))
  have CU : Hid (∀ w', Below W.heap.size W w' → Calls Tryz.prog 17 #[.agg #[f0, f1, f2, f3]] w' fun e w'' => ∃ v', e = .returned v' ∧ DSum w'' (lin u) v' ∧ Below w'.heap.size w' w'') := fun w' h => ihu W (.agg #[f0, f1, f2, f3]) w' ⟨_, _, _, _, rfl, hru⟩ h (by omega)
  have p0 : w2.cell? ⟨g, of, none⟩ = some d0 := (hW2.cell (p := ⟨g, of, none⟩) hg).trans q0
  have p1 : w2.cell? ⟨g, of + 1, none⟩ = some d1 := (hW2.cell (p := ⟨g, of + 1, none⟩) hg).trans q1
  have p2 : w2.cell? ⟨g, of + 2, none⟩ = some d2 := (hW2.cell (p := ⟨g, of + 2, none⟩) hg).trans q2
  have p3 : w2.cell? ⟨g, of + 3, none⟩ = some d3 := (hW2.cell (p := ⟨g, of + 3, none⟩) hg).trans q3
  have TU : Hid (∀ y : World, Below W.heap.size W y → y.cell? ⟨g, of + 4, none⟩ = some f0 ∧ y.cell? ⟨g, of + 5, none⟩ = some f1 ∧ y.cell? ⟨g, of + 6, none⟩ = some f2 ∧ y.cell? ⟨g, of + 7, none⟩ = some f3) := fun y hy => ⟨(hy.cell (p := ⟨g, of + 4, none⟩) hg).trans t0, (hy.cell (p := ⟨g, of + 5, none⟩) hg).trans t1, (hy.cell (p := ⟨g, of + 6, none⟩) hg).trans t2, (hy.cell (p := ⟨g, of + 7, none⟩) hg).trans t3⟩
  obtain ⟨b0, b1, b2, b3⟩ := term4 HF.box
  clear ih ihu q0 q1 q2 q3 hrt hk t0 t1 t2 t3 hru
  refine wp_loop_rounds 3 ?_
  rw [rounds_succ]
  go_wp2_with (fail)
  refine C.out.mono ?_
  rintro e w3 ⟨v', rfl, hL, hB3⟩
  have HF3 := HF.keep hB3
  clear C p0 p1 p2 p3 b0 b1 b2 b3 HF
  cases hl : lin t with
  | er e =>
    rw [hl] at hL
    obtain ⟨no, co, n, c, m, d, k, rfl, he⟩ := hL
    have hx : ((e : Int) != 0) = true := by rw [bne_iff_ne]; omega
    have HR : Hid (lin (.mk 4 0 emp [t, u]) = .er e) := by have := HN.out; rw [hl] at this; exact this
    have HF4 := HF3.keep (bal w3 (.cells (sum4 no co n c m d k e) 32))
    clear HG HE HN HGu HEu CU TU
    have hDS : DSum (w3.alloc (.cells (sum4 no co n c m d k e) 32)) (lin (.mk 4 0 emp [t, u])) (.agg (sum4 no co n c m d k e)) := by rw [HR.out]; exact ⟨no, co, n, c, m, d, k, rfl, he⟩
    obtain ⟨⟨z0, y0⟩, ⟨z1, y1⟩, ⟨z2, y2⟩, ⟨z3, y3⟩⟩ := cellsZ4 HF4.res
    have hR9 := rb_four HF4.res rfl (.slice no n c) (.slice co m d) (.int .i64 k) (.int .i64 (e : Nat))
    have hD9 := mkHid (hDS.st4 HF4.res (.slice no n c) (.slice co m d) (.int .i64 k) (.int .i64 (e : Nat)))
    have hB9 := mkHid ((bel_st3 HF4.bel (show w.heap.size ≤ w.heap.size + 1 by omega) (.slice no n c) (.slice co m d) (.int .i64 k)).setCell (p := ⟨w.heap.size + 1, 3, none⟩) (show w.heap.size ≤ w.heap.size + 1 by omega) (.int .i64 (e : Nat)))
    go_wp2_with (fail)
    obtain ⟨k0, k1, k2, k3⟩ := cells4 hR9
    exact bodyPost_ret (v := .agg #[.slice no n c, .slice co m d, .int .i64 k, .int .i64 (e : Nat)]) (by simp [results, Tryz.results17, go_sem, k0, k1, k2, k3]) rfl ⟨_, rfl, hD9.out, hB9.out⟩
  | ok s =>
    rw [hl] at hL
    obtain ⟨no, co, n, c, m, d, rfl, hN, hZ, hK, hC⟩ := hL
    have gS := HG.out s hl
    clear HG HE
    have hB4 := bt2 (bal w3 (.cells (sum4 no co n c m d s.k 0) 32)) (bal (w3.alloc (.cells (sum4 no co n c m d s.k 0) 32)) (.cells (sum4 no co n c m d s.k 0) 32))
    have hRs := rb_new (w3.alloc (.cells (sum4 no co n c m d s.k 0) 32)) (sum4 no co n c m d s.k 0) 32
    rw [eq_size] at hRs
    go_wp2_with (at_builtin; refine wp_push4 _ w3.heap.size rfl (.tmp 37) (.tmp 39) rfl _ 0 [] rfl (w3.heap.size + 1) rfl no co n c m d s.k 0 (World.ownsRow_nil _ _ _ _) hRs (by simp <;> omega) (by omega) ?_; intro g4 c4 w4 hO4 hB5 hT5)
    simp only [Nat.zero_add, List.nil_append] at hO4
    have hB35 := hB4.trans hB5
    have HF4 := HF3.keep hB35
    obtain ⟨b0, b1, b2, b3⟩ := term4 HF4.box
    obtain ⟨hc4, hc4'⟩ := owns_cap hO4
    have hnn : n ≤ 500 := by have := gS.few; rw [hN.eqlen] at this; exact this
    have hmn : m = n := by have := gS.len; rw [hN.eqlen, hZ.eqlen] at this; exact this
    subst hmn
    have hW4 : Below W.heap.size W w4 := hW.trans (HF4.bel.mono hW.size)
    obtain ⟨p0, p1, p2, p3⟩ := TU.out w4 hW4
    have C := mkHid (CU.out w4 hW4)
    have HS := mkHid gS
    have hLs := mkHid hl
    have hx4 := hB35.size
    clear hB4 hB5 hRs gS CU TU hl hT5
    rw [rounds_succ]
    go_wp2_with (fail)
    refine C.out.mono ?_
    rintro e w5 ⟨v5, rfl, hL5, hB6⟩
    have HF5 := HF4.keep hB6
    clear C p0 p1 p2 p3 b0 b1 b2 b3
    cases hlu : lin u with
    | er e =>
      rw [hlu] at hL5
      obtain ⟨no', co', n', c', m', d', k, rfl, he⟩ := hL5
      have hx : ((e : Int) != 0) = true := by rw [bne_iff_ne]; omega
      have HR : Hid (lin (.mk 4 0 emp [t, u]) = .er e) := by have := HN.out; rw [hLs.out, hlu] at this; exact this
      have HF6 := HF5.keep (bal w5 (.cells (sum4 no' co' n' c' m' d' k e) 32))
      clear HN HGu HEu hLs HS
      have hDS : DSum (w5.alloc (.cells (sum4 no' co' n' c' m' d' k e) 32)) (lin (.mk 4 0 emp [t, u])) (.agg (sum4 no' co' n' c' m' d' k e)) := by rw [HR.out]; exact ⟨no', co', n', c', m', d', k, rfl, he⟩
      obtain ⟨⟨z0, y0⟩, ⟨z1, y1⟩, ⟨z2, y2⟩, ⟨z3, y3⟩⟩ := cellsZ4 HF6.res
      have hR9 := rb_four HF6.res rfl (.slice no' n' c') (.slice co' m' d') (.int .i64 k) (.int .i64 (e : Nat))
      have hD9 := mkHid (hDS.st4 HF6.res (.slice no' n' c') (.slice co' m' d') (.int .i64 k) (.int .i64 (e : Nat)))
      have hB9 := mkHid ((bel_st3 HF6.bel (show w.heap.size ≤ w.heap.size + 1 by omega) (.slice no' n' c') (.slice co' m' d') (.int .i64 k)).setCell (p := ⟨w.heap.size + 1, 3, none⟩) (show w.heap.size ≤ w.heap.size + 1 by omega) (.int .i64 (e : Nat)))
      go_wp2_with (fail)
      obtain ⟨k0, k1, k2, k3⟩ := cells4 hR9
      exact bodyPost_ret (v := .agg #[.slice no' n' c', .slice co' m' d', .int .i64 k, .int .i64 (e : Nat)]) (by simp [results, Tryz.results17, go_sem, k0, k1, k2, k3]) rfl ⟨_, rfl, hD9.out, hB9.out⟩
    | ok r =>
      rw [hlu] at hL5
      obtain ⟨no', co', n', c', m', d', rfl, hN5, hZ5, hK5, hC5⟩ := hL5
      have HR : Hid (lin (.mk 4 0 emp [t, u]) = mkS (cmb (bop true) s r)) := by have := HN.out; rw [hLs.out, hlu] at this; exact this
      have gR := HGu.out r hlu
      clear HGu HEu HN hLs
      have hB7 := bt2 (bal w5 (.cells (sum4 no' co' n' c' m' d' r.k 0) 32)) (bal (w5.alloc (.cells (sum4 no' co' n' c' m' d' r.k 0) 32)) (.cells (sum4 no' co' n' c' m' d' r.k 0) 32))
      have hRs := rb_new (w5.alloc (.cells (sum4 no' co' n' c' m' d' r.k 0) 32)) (sum4 no' co' n' c' m' d' r.k 0) 32
      rw [eq_size] at hRs
      have hO5 := owns4_below (owns4_below hO4 hB6) hB7
      have hx3 := hB35.size
      have hx5 := hB6.size
      go_wp2_with (at_builtin; refine wp_push4 _ w3.heap.size rfl (.tmp 37) (.tmp 39) rfl _ 1 _ rfl (w5.heap.size + 1) rfl no' co' n' c' m' d' r.k 0 hO5 hRs (by simp <;> omega) (by omega) ?_; intro g6 c6 w6 hO6 hB8 hT8)
      simp only [Nat.reduceAdd, List.cons_append, List.nil_append] at hO6
      have hB56 : Below w3.heap.size w5 w6 := (hB7.mono (by omega)).trans hB8
      have hB46 : Below w3.heap.size w4 w6 := (hB6.mono (by omega)).trans hB56
      have hB36 := hB35.trans hB46
      have HF6 := HF3.keep hB36
      have hN6 := hN.below (Nat.le_refl _) hB36
      have hZ6 := hZ.below (Nat.le_refl _) hB36
      have hK6 := hK.below hB36
      have M6 := rds_ty (hN5.below (Nat.le_refl _) hB7) (hK5.below hB7) (by decide) hT8
      have Z6 := rdz_ty (hZ5.below (Nat.le_refl _) hB7) (hC5.below hB7) (by decide) hT8
      have L6 := bk_ty (hK5.below hB7) (by decide) hT8
      obtain ⟨b0, b1, b2, b3⟩ := term4 HF6.box
      obtain ⟨⟨q0, q1, q2, q3⟩, q4, q5, q6, q7⟩ := parts2 hO6
      obtain ⟨hc6, hc6'⟩ := owns_cap hO6
      have hnn' : n' ≤ 500 := by have := gR.few; rw [hN5.eqlen] at this; exact this
      have hmn' : m' = n' := by have := gR.len; rw [hN5.eqlen, hZ5.eqlen] at this; exact this
      subst hmn'
      have hgR : g6 ≠ w.heap.size + 1 := by
        have h1 := (hO6.lt g6 rfl).1
        have h2 := HF3.size
        omega
      have PX : Hid (∀ y : World, Below w6.heap.size w6 y → (y.cell? ⟨g6, 0, none⟩ = some (.slice no m c) ∧ y.cell? ⟨g6, 1, none⟩ = some (.slice co m d) ∧ y.cell? ⟨g6, 2, none⟩ = some (.int .i64 s.k) ∧ y.cell? ⟨g6, 3, none⟩ = some (.int .i64 0)) ∧ y.cell? ⟨g6, 4, none⟩ = some (.slice no' m' c') ∧ y.cell? ⟨g6, 5, none⟩ = some (.slice co' m' d') ∧ y.cell? ⟨g6, 6, none⟩ = some (.int .i64 r.k) ∧ y.cell? ⟨g6, 7, none⟩ = some (.int .i64 0)) := fun y hy => parts2 (owns4_below hO6 hy)
      have fS := HS.out.fit
      have fR := gR.fit
      clear hB7 hRs hO4 hO5 hN hZ hK hC hN5 hZ5 hK5 hC5 hT8 hB8 hB6 hB46 hB56 hB36 hB35 hB3 HF3 HF4 HF5 HS gR
      rw [rounds_succ]
      go_wp2_with (fail)
      have hD6 : Below w6.heap.size w6 w6.drew := (Below.refl _ _).drew
      clear q0 q1 q2 q3 q4 q5 q6 q7 b0 b1 b2 b3
      have CP : Hid (∀ y : World, Below w6.heap.size w6 y → Calls Tryz.prog 25 #[.agg (sum4 no co m c m d s.k 0), .agg (sum4 no' co' m' c' m' d' r.k 0), .bool true] y fun e w' => ∃ v, e = .returned v ∧ DSum w' (lin (.mk 4 0 emp [t, u])) v ∧ Below y.heap.size y w') := by
        intro y hy
        refine (rplus_at s r no co no' co' m c m d m' c' m' d' true y (hN6.below (Nat.le_refl _) hy) (hZ6.below (Nat.le_refl _) hy) (M6.below (Nat.le_refl _) hy) (Z6.below (Nat.le_refl _) hy) (by omega) (by omega) fS fR rfl rfl).mono ?_
        rintro e w' ⟨v, rfl, h1, h2⟩
        exact ⟨v, rfl, by rw [HR.out]; exact h1.sum, h2⟩
      clear HR hN6 hZ6 hK6 M6 Z6 L6
      go_region_held3 (fun y => (y.cell? ⟨g6, 0, none⟩ = some (.slice no m c) ∧ y.cell? ⟨g6, 1, none⟩ = some (.slice co m d) ∧ y.cell? ⟨g6, 2, none⟩ = some (.int .i64 s.k) ∧ y.cell? ⟨g6, 3, none⟩ = some (.int .i64 0)) ∧ y.cell? ⟨g6, 4, none⟩ = some (.slice no' m' c') ∧ y.cell? ⟨g6, 5, none⟩ = some (.slice co' m' d') ∧ y.cell? ⟨g6, 6, none⟩ = some (.int .i64 r.k) ∧ y.cell? ⟨g6, 7, none⟩ = some (.int .i64 0)) (first | exact PX.out _ hD6 | exact PX.out _ hE7 | exact PS.out _ _ _ _ | fail)
        (first | (go_at_call 25; refine (CP.out _ hD6).mono ?_; rintro e w7 ⟨v7, rfl, hS7, hB7⟩; obtain ⟨no5, co5, n5, c5, m5, d5, k5, e5, rfl⟩ := hS7.shape; have hE7 := bt2 hD6 hB7; have HF7 := HF6.keep hE7; obtain ⟨⟨z0, y0⟩, ⟨z1, y1⟩, ⟨z2, y2⟩, ⟨z3, y3⟩⟩ := cellsZ4 HF7.res; obtain ⟨⟨q0, q1, q2, q3⟩, q4, q5, q6, q7⟩ := PX.out _ hE7; have PS := mkHid (fun v0 v1 v2 v3 => (⟨⟨st4_cell hgR q0 v0 v1 v2 v3, st4_cell hgR q1 v0 v1 v2 v3, st4_cell hgR q2 v0 v1 v2 v3, st4_cell hgR q3 v0 v1 v2 v3⟩, st4_cell hgR q4 v0 v1 v2 v3, st4_cell hgR q5 v0 v1 v2 v3, st4_cell hgR q6 v0 v1 v2 v3, st4_cell hgR q7 v0 v1 v2 v3⟩ : (_ ∧ _ ∧ _ ∧ _) ∧ _ ∧ _ ∧ _ ∧ _)); have hR9 := rb_four HF7.res rfl (.slice no5 n5 c5) (.slice co5 m5 d5) (.int .i64 k5) (.int .i64 e5); have hD9 := mkHid (hS7.st4 HF7.res (.slice no5 n5 c5) (.slice co5 m5 d5) (.int .i64 k5) (.int .i64 e5)); have hB9 := mkHid ((bel_st3 HF7.bel (show w.heap.size ≤ w.heap.size + 1 by omega) (.slice no5 n5 c5) (.slice co5 m5 d5) (.int .i64 k5)).setCell (p := ⟨w.heap.size + 1, 3, none⟩) (show w.heap.size ≤ w.heap.size + 1 by omega) (.int .i64 e5))))
      go_wp2_with (fail)
      obtain ⟨k0, k1, k2, k3⟩ := cells4 hR9
      exact bodyPost_ret (v := .agg #[.slice no5 n5 c5, .slice co5 m5 d5, .int .i64 k5, .int .i64 e5]) (by simp [results, Tryz.results17, go_sem, k0, k1, k2, k3]) rfl ⟨_, rfl, hD9.out, hB9.out⟩
end Go.Proofs.YtiapkblebbcfbaaGreat.Gl
/- The document's Work: products. -/
namespace Go.Proofs.YtiapkblebbcfbaaGreat.Gl
open Go Go.RowKit
set_option linter.unusedVariables false
set_option linter.unusedSimpArgs false

set_option maxRecDepth 100000 in
set_option maxHeartbeats 40000000 in
theorem work_two5 (t u : Tm) (ht : t.all (wellT nmB) = true) (hu : u.all (wellT nmB) = true) (ih : WorkC t) (ihu : WorkC u) : WorkC (.mk 5 0 emp [t, u]) := by
  rintro W v w ⟨c0, c1, c2, c3, rfl, hr⟩ hW hsz
  rw [RdT] at hr
  obtain ⟨rfl, rfl, rfl, -, ao, cap, rfl, hcap, hcm, hk⟩ := hr
  obtain ⟨g, of, d0, d1, d2, d3, f0, f1, f2, f3, rfl, q0, q1, q2, q3, hrt, t0, t1, t2, t3, hru, hg⟩ := two_kids hk
  have hst : t.size + u.size ≤ 499 := by have := hsz; simp only [Tm.size, Tm.sizeL] at this; omega
  have hcap' : 2 ≤ cap := hcap
  have HG : Hid (∀ p, lin t = .ok p → p.good nmB 500) := fun p hp => (lin_good nmB t ht p hp).mono (by omega)
  have HE : Hid (∀ e, lin t = .er e → e = 90 ∨ e = 91) := lin_er nmB t ht
  have HGu : Hid (∀ p, lin u = .ok p → p.good nmB 500) := fun p hp => (lin_good nmB u hu p hp).mono (by omega)
  have HEu : Hid (∀ e, lin u = .er e → e = 90 ∨ e = 91) := lin_er nmB u hu
  have HN : Hid _ := lin_two (o := 5) (by decide) 0 emp t u
  have HF := frw_new w (.int .i64 5) (.int .i64 0) (.string emp) (.slice (some ⟨g, of, none⟩) 2 cap)
  go_enter Tryz.func17, Tryz.ntmps17
  go_wp2_with (fail)
  generalize (w.alloc (.cells #[.int .i64 5, .int .i64 0, .string emp, .slice (some ⟨g, of, none⟩) 2 cap] 25)).alloc (.cells z4 32) = w2 at HF ⊢
  have hW2 : Below W.heap.size W w2 := hW.trans (HF.bel.mono hW.size)
  have C := mkHid (ih W (.agg #[d0, d1, d2, d3]) w2 ⟨_, _, _, _, rfl, hrt⟩ hW2 (by omega))
  have CU : Hid (∀ w', Below W.heap.size W w' → Calls Tryz.prog 17 #[.agg #[f0, f1, f2, f3]] w' fun e w'' => ∃ v', e = .returned v' ∧ DSum w'' (lin u) v' ∧ Below w'.heap.size w' w'') := fun w' h => ihu W (.agg #[f0, f1, f2, f3]) w' ⟨_, _, _, _, rfl, hru⟩ h (by omega)
  have p0 : w2.cell? ⟨g, of, none⟩ = some d0 := (hW2.cell (p := ⟨g, of, none⟩) hg).trans q0
  have p1 : w2.cell? ⟨g, of + 1, none⟩ = some d1 := (hW2.cell (p := ⟨g, of + 1, none⟩) hg).trans q1
  have p2 : w2.cell? ⟨g, of + 2, none⟩ = some d2 := (hW2.cell (p := ⟨g, of + 2, none⟩) hg).trans q2
  have p3 : w2.cell? ⟨g, of + 3, none⟩ = some d3 := (hW2.cell (p := ⟨g, of + 3, none⟩) hg).trans q3
  have TU : Hid (∀ y : World, Below W.heap.size W y → y.cell? ⟨g, of + 4, none⟩ = some f0 ∧ y.cell? ⟨g, of + 5, none⟩ = some f1 ∧ y.cell? ⟨g, of + 6, none⟩ = some f2 ∧ y.cell? ⟨g, of + 7, none⟩ = some f3) := fun y hy => ⟨(hy.cell (p := ⟨g, of + 4, none⟩) hg).trans t0, (hy.cell (p := ⟨g, of + 5, none⟩) hg).trans t1, (hy.cell (p := ⟨g, of + 6, none⟩) hg).trans t2, (hy.cell (p := ⟨g, of + 7, none⟩) hg).trans t3⟩
  obtain ⟨b0, b1, b2, b3⟩ := term4 HF.box
  clear ih ihu q0 q1 q2 q3 hrt hk t0 t1 t2 t3 hru
  refine wp_loop_rounds 3 ?_
  rw [rounds_succ]
  go_wp2_with (fail)
  refine C.out.mono ?_
  rintro e w3 ⟨v', rfl, hL, hB3⟩
  have HF3 := HF.keep hB3
  clear C p0 p1 p2 p3 b0 b1 b2 b3 HF
  cases hl : lin t with
  | er e =>
    rw [hl] at hL
    obtain ⟨no, co, n, c, m, d, k, rfl, he⟩ := hL
    have hx : ((e : Int) != 0) = true := by rw [bne_iff_ne]; omega
    have HR : Hid (lin (.mk 5 0 emp [t, u]) = .er e) := by have := HN.out; rw [hl] at this; exact this
    have HF4 := HF3.keep (bal w3 (.cells (sum4 no co n c m d k e) 32))
    clear HG HE HN HGu HEu CU TU
    have hDS : DSum (w3.alloc (.cells (sum4 no co n c m d k e) 32)) (lin (.mk 5 0 emp [t, u])) (.agg (sum4 no co n c m d k e)) := by rw [HR.out]; exact ⟨no, co, n, c, m, d, k, rfl, he⟩
    obtain ⟨⟨z0, y0⟩, ⟨z1, y1⟩, ⟨z2, y2⟩, ⟨z3, y3⟩⟩ := cellsZ4 HF4.res
    have hR9 := rb_four HF4.res rfl (.slice no n c) (.slice co m d) (.int .i64 k) (.int .i64 (e : Nat))
    have hD9 := mkHid (hDS.st4 HF4.res (.slice no n c) (.slice co m d) (.int .i64 k) (.int .i64 (e : Nat)))
    have hB9 := mkHid ((bel_st3 HF4.bel (show w.heap.size ≤ w.heap.size + 1 by omega) (.slice no n c) (.slice co m d) (.int .i64 k)).setCell (p := ⟨w.heap.size + 1, 3, none⟩) (show w.heap.size ≤ w.heap.size + 1 by omega) (.int .i64 (e : Nat)))
    go_wp2_with (fail)
    obtain ⟨k0, k1, k2, k3⟩ := cells4 hR9
    exact bodyPost_ret (v := .agg #[.slice no n c, .slice co m d, .int .i64 k, .int .i64 (e : Nat)]) (by simp [results, Tryz.results17, go_sem, k0, k1, k2, k3]) rfl ⟨_, rfl, hD9.out, hB9.out⟩
  | ok s =>
    rw [hl] at hL
    obtain ⟨no, co, n, c, m, d, rfl, hN, hZ, hK, hC⟩ := hL
    have gS := HG.out s hl
    clear HG HE
    have hB4 := bt2 (bal w3 (.cells (sum4 no co n c m d s.k 0) 32)) (bal (w3.alloc (.cells (sum4 no co n c m d s.k 0) 32)) (.cells (sum4 no co n c m d s.k 0) 32))
    have hRs := rb_new (w3.alloc (.cells (sum4 no co n c m d s.k 0) 32)) (sum4 no co n c m d s.k 0) 32
    rw [eq_size] at hRs
    go_wp2_with (at_builtin; refine wp_push4 _ w3.heap.size rfl (.tmp 37) (.tmp 39) rfl _ 0 [] rfl (w3.heap.size + 1) rfl no co n c m d s.k 0 (World.ownsRow_nil _ _ _ _) hRs (by simp <;> omega) (by omega) ?_; intro g4 c4 w4 hO4 hB5 hT5)
    simp only [Nat.zero_add, List.nil_append] at hO4
    have hB35 := hB4.trans hB5
    have HF4 := HF3.keep hB35
    obtain ⟨b0, b1, b2, b3⟩ := term4 HF4.box
    obtain ⟨hc4, hc4'⟩ := owns_cap hO4
    have hnn : n ≤ 500 := by have := gS.few; rw [hN.eqlen] at this; exact this
    have hmn : m = n := by have := gS.len; rw [hN.eqlen, hZ.eqlen] at this; exact this
    subst hmn
    have hW4 : Below W.heap.size W w4 := hW.trans (HF4.bel.mono hW.size)
    obtain ⟨p0, p1, p2, p3⟩ := TU.out w4 hW4
    have C := mkHid (CU.out w4 hW4)
    have HS := mkHid gS
    have hLs := mkHid hl
    have hx4 := hB35.size
    clear hB4 hB5 hRs gS CU TU hl hT5
    rw [rounds_succ]
    go_wp2_with (fail)
    refine C.out.mono ?_
    rintro e w5 ⟨v5, rfl, hL5, hB6⟩
    have HF5 := HF4.keep hB6
    clear C p0 p1 p2 p3 b0 b1 b2 b3
    cases hlu : lin u with
    | er e =>
      rw [hlu] at hL5
      obtain ⟨no', co', n', c', m', d', k, rfl, he⟩ := hL5
      have hx : ((e : Int) != 0) = true := by rw [bne_iff_ne]; omega
      have HR : Hid (lin (.mk 5 0 emp [t, u]) = .er e) := by have := HN.out; rw [hLs.out, hlu] at this; exact this
      have HF6 := HF5.keep (bal w5 (.cells (sum4 no' co' n' c' m' d' k e) 32))
      clear HN HGu HEu hLs HS
      have hDS : DSum (w5.alloc (.cells (sum4 no' co' n' c' m' d' k e) 32)) (lin (.mk 5 0 emp [t, u])) (.agg (sum4 no' co' n' c' m' d' k e)) := by rw [HR.out]; exact ⟨no', co', n', c', m', d', k, rfl, he⟩
      obtain ⟨⟨z0, y0⟩, ⟨z1, y1⟩, ⟨z2, y2⟩, ⟨z3, y3⟩⟩ := cellsZ4 HF6.res
      have hR9 := rb_four HF6.res rfl (.slice no' n' c') (.slice co' m' d') (.int .i64 k) (.int .i64 (e : Nat))
      have hD9 := mkHid (hDS.st4 HF6.res (.slice no' n' c') (.slice co' m' d') (.int .i64 k) (.int .i64 (e : Nat)))
      have hB9 := mkHid ((bel_st3 HF6.bel (show w.heap.size ≤ w.heap.size + 1 by omega) (.slice no' n' c') (.slice co' m' d') (.int .i64 k)).setCell (p := ⟨w.heap.size + 1, 3, none⟩) (show w.heap.size ≤ w.heap.size + 1 by omega) (.int .i64 (e : Nat)))
      go_wp2_with (fail)
      obtain ⟨k0, k1, k2, k3⟩ := cells4 hR9
      exact bodyPost_ret (v := .agg #[.slice no' n' c', .slice co' m' d', .int .i64 k, .int .i64 (e : Nat)]) (by simp [results, Tryz.results17, go_sem, k0, k1, k2, k3]) rfl ⟨_, rfl, hD9.out, hB9.out⟩
    | ok r =>
      rw [hlu] at hL5
      obtain ⟨no', co', n', c', m', d', rfl, hN5, hZ5, hK5, hC5⟩ := hL5
      have HR : Hid (lin (.mk 5 0 emp [t, u]) = prdS s r) := by have := HN.out; rw [hLs.out, hlu] at this; exact this
      have gR := HGu.out r hlu
      clear HGu HEu HN hLs
      have hB7 := bt2 (bal w5 (.cells (sum4 no' co' n' c' m' d' r.k 0) 32)) (bal (w5.alloc (.cells (sum4 no' co' n' c' m' d' r.k 0) 32)) (.cells (sum4 no' co' n' c' m' d' r.k 0) 32))
      have hRs := rb_new (w5.alloc (.cells (sum4 no' co' n' c' m' d' r.k 0) 32)) (sum4 no' co' n' c' m' d' r.k 0) 32
      rw [eq_size] at hRs
      have hO5 := owns4_below (owns4_below hO4 hB6) hB7
      have hx3 := hB35.size
      have hx5 := hB6.size
      go_wp2_with (at_builtin; refine wp_push4 _ w3.heap.size rfl (.tmp 37) (.tmp 39) rfl _ 1 _ rfl (w5.heap.size + 1) rfl no' co' n' c' m' d' r.k 0 hO5 hRs (by simp <;> omega) (by omega) ?_; intro g6 c6 w6 hO6 hB8 hT8)
      simp only [Nat.reduceAdd, List.cons_append, List.nil_append] at hO6
      have hB56 : Below w3.heap.size w5 w6 := (hB7.mono (by omega)).trans hB8
      have hB46 : Below w3.heap.size w4 w6 := (hB6.mono (by omega)).trans hB56
      have hB36 := hB35.trans hB46
      have HF6 := HF3.keep hB36
      have hN6 := hN.below (Nat.le_refl _) hB36
      have hZ6 := hZ.below (Nat.le_refl _) hB36
      have hK6 := hK.below hB36
      have M6 := rds_ty (hN5.below (Nat.le_refl _) hB7) (hK5.below hB7) (by decide) hT8
      have Z6 := rdz_ty (hZ5.below (Nat.le_refl _) hB7) (hC5.below hB7) (by decide) hT8
      have L6 := bk_ty (hK5.below hB7) (by decide) hT8
      obtain ⟨b0, b1, b2, b3⟩ := term4 HF6.box
      obtain ⟨⟨q0, q1, q2, q3⟩, q4, q5, q6, q7⟩ := parts2 hO6
      obtain ⟨hc6, hc6'⟩ := owns_cap hO6
      have hnn' : n' ≤ 500 := by have := gR.few; rw [hN5.eqlen] at this; exact this
      have hmn' : m' = n' := by have := gR.len; rw [hN5.eqlen, hZ5.eqlen] at this; exact this
      subst hmn'
      have hgR : g6 ≠ w.heap.size + 1 := by
        have h1 := (hO6.lt g6 rfl).1
        have h2 := HF3.size
        omega
      have PX : Hid (∀ y : World, Below w6.heap.size w6 y → (y.cell? ⟨g6, 0, none⟩ = some (.slice no m c) ∧ y.cell? ⟨g6, 1, none⟩ = some (.slice co m d) ∧ y.cell? ⟨g6, 2, none⟩ = some (.int .i64 s.k) ∧ y.cell? ⟨g6, 3, none⟩ = some (.int .i64 0)) ∧ y.cell? ⟨g6, 4, none⟩ = some (.slice no' m' c') ∧ y.cell? ⟨g6, 5, none⟩ = some (.slice co' m' d') ∧ y.cell? ⟨g6, 6, none⟩ = some (.int .i64 r.k) ∧ y.cell? ⟨g6, 7, none⟩ = some (.int .i64 0)) := fun y hy => parts2 (owns4_below hO6 hy)
      have fS := HS.out.fit
      have fR := gR.fit
      clear hB7 hRs hO4 hO5 hN hZ hK hC hN5 hZ5 hK5 hC5 hT8 hB8 hB6 hB46 hB56 hB36 hB35 hB3 HF3 HF4 HF5 HS gR
      rw [rounds_succ]
      by_cases h1 : 0 < m
      · have e1 : decide (0 < (m : Int)) = true := decide_eq_true (by omega)
        have hs1 : ¬ s.ns.length = 0 := by rw [← hN6.eqlen] at h1; omega
        by_cases h2 : 0 < m'
        · have e2 : decide (0 < (m' : Int)) = true := decide_eq_true (by omega)
          have hs2 : ¬ r.ns.length = 0 := by rw [← M6.eqlen] at h2; omega
          have HR2 : Hid (lin (.mk 5 0 emp [t, u]) = .er 90) := by show _ = _; rw [HR.out]; unfold prdS; rw [if_neg hs2, if_neg hs1]
          have hDS : DSum w6 (lin (.mk 5 0 emp [t, u])) (.agg (sum4 none none 0 0 0 0 0 90)) := by rw [HR2.out]; exact ⟨none, none, 0, 0, 0, 0, 0, rfl, .inl rfl⟩
          clear HR HR2 hN6 hZ6 hK6 M6 Z6 L6 PX
          obtain ⟨⟨z0, y0⟩, ⟨z1, y1⟩, ⟨z2, y2⟩, ⟨z3, y3⟩⟩ := cellsZ4 HF6.res
          have hR9 := rb_four HF6.res rfl (.slice none 0 0) (.slice none 0 0) (.int .i64 0) (.int .i64 90)
          have hD9 := mkHid (hDS.st4 HF6.res (.slice none 0 0) (.slice none 0 0) (.int .i64 0) (.int .i64 90))
          have hB9 := mkHid ((bel_st3 HF6.bel (show w.heap.size ≤ w.heap.size + 1 by omega) (.slice none 0 0) (.slice none 0 0) (.int .i64 0)).setCell (p := ⟨w.heap.size + 1, 3, none⟩) (show w.heap.size ≤ w.heap.size + 1 by omega) (.int .i64 90))
          go_wp2_with (fail)
          obtain ⟨k0, k1, k2, k3⟩ := cells4 hR9
          exact bodyPost_ret (v := .agg #[.slice none 0 0, .slice none 0 0, .int .i64 0, .int .i64 90]) (by simp [results, Tryz.results17, go_sem, k0, k1, k2, k3]) rfl ⟨_, rfl, hD9.out, hB9.out⟩
        · have e2 : decide (0 < (m' : Int)) = false := decide_eq_false (by omega)
          have hs2 : r.ns.length = 0 := by have := M6.eqlen; omega
          have HR2 : prdS s r = mkS (scl s r.k) := by unfold prdS; rw [if_pos hs2]
          go_wp2_with (fail)
          have hD6 : Below w6.heap.size w6 w6.drew := (Below.refl _ _).drew
          clear q0 q1 q2 q3 q4 q5 q6 q7 b0 b1 b2 b3
          have CP : Hid (∀ y : World, Below w6.heap.size w6 y → Calls Tryz.prog 40 #[.agg (sum4 no co m c m d s.k 0), .int .i64 r.k] y fun e w' => ∃ v, e = .returned v ∧ DSum w' (lin (.mk 5 0 emp [t, u])) v ∧ Below y.heap.size y w') := by
            intro y hy
            refine (rtimes_at s no co m c m d r.k y (hN6.below (Nat.le_refl _) hy) (hZ6.below (Nat.le_refl _) hy) (by omega) fS rfl (Sm.fits.k fR) (hK6.below hy)).mono ?_
            rintro e w' ⟨v, rfl, h1, h2⟩
            exact ⟨v, rfl, by rw [HR.out, HR2]; exact h1, h2⟩
          clear HR hN6 hZ6 hK6 M6 Z6 L6
          go_region_held3 (fun y => (y.cell? ⟨g6, 0, none⟩ = some (.slice no m c) ∧ y.cell? ⟨g6, 1, none⟩ = some (.slice co m d) ∧ y.cell? ⟨g6, 2, none⟩ = some (.int .i64 s.k) ∧ y.cell? ⟨g6, 3, none⟩ = some (.int .i64 0)) ∧ y.cell? ⟨g6, 4, none⟩ = some (.slice no' m' c') ∧ y.cell? ⟨g6, 5, none⟩ = some (.slice co' m' d') ∧ y.cell? ⟨g6, 6, none⟩ = some (.int .i64 r.k) ∧ y.cell? ⟨g6, 7, none⟩ = some (.int .i64 0)) (first | exact PX.out _ hD6 | exact PX.out _ hE7 | exact PS.out _ _ _ _ | fail)
            (first | (go_at_call 40; refine (CP.out _ hD6).mono ?_; rintro e w7 ⟨v7, rfl, hS7, hB7⟩; obtain ⟨no5, co5, n5, c5, m5, d5, k5, e5, rfl⟩ := hS7.shape; have hE7 := bt2 hD6 hB7; have HF7 := HF6.keep hE7; obtain ⟨⟨z0, y0⟩, ⟨z1, y1⟩, ⟨z2, y2⟩, ⟨z3, y3⟩⟩ := cellsZ4 HF7.res; obtain ⟨⟨q0, q1, q2, q3⟩, q4, q5, q6, q7⟩ := PX.out _ hE7; have PS := mkHid (fun v0 v1 v2 v3 => (⟨⟨st4_cell hgR q0 v0 v1 v2 v3, st4_cell hgR q1 v0 v1 v2 v3, st4_cell hgR q2 v0 v1 v2 v3, st4_cell hgR q3 v0 v1 v2 v3⟩, st4_cell hgR q4 v0 v1 v2 v3, st4_cell hgR q5 v0 v1 v2 v3, st4_cell hgR q6 v0 v1 v2 v3, st4_cell hgR q7 v0 v1 v2 v3⟩ : (_ ∧ _ ∧ _ ∧ _) ∧ _ ∧ _ ∧ _ ∧ _)); have hR9 := rb_four HF7.res rfl (.slice no5 n5 c5) (.slice co5 m5 d5) (.int .i64 k5) (.int .i64 e5); have hD9 := mkHid (hS7.st4 HF7.res (.slice no5 n5 c5) (.slice co5 m5 d5) (.int .i64 k5) (.int .i64 e5)); have hB9 := mkHid ((bel_st3 HF7.bel (show w.heap.size ≤ w.heap.size + 1 by omega) (.slice no5 n5 c5) (.slice co5 m5 d5) (.int .i64 k5)).setCell (p := ⟨w.heap.size + 1, 3, none⟩) (show w.heap.size ≤ w.heap.size + 1 by omega) (.int .i64 e5))))
          go_wp2_with (fail)
          obtain ⟨k0, k1, k2, k3⟩ := cells4 hR9
          exact bodyPost_ret (v := .agg #[.slice no5 n5 c5, .slice co5 m5 d5, .int .i64 k5, .int .i64 e5]) (by simp [results, Tryz.results17, go_sem, k0, k1, k2, k3]) rfl ⟨_, rfl, hD9.out, hB9.out⟩
      · have e1 : decide (0 < (m : Int)) = false := decide_eq_false (by omega)
        have hs1 : s.ns.length = 0 := by have := hN6.eqlen; omega
        have HR2 : prdS s r = mkS (scl r s.k) := by
          unfold prdS
          by_cases hs2 : r.ns.length = 0
          · rw [if_pos hs2]
            have e3 : scl s r.k = scl r s.k := by
              have a1 : s.ns = [] := List.length_eq_zero_iff.1 hs1
              have a2 : r.ns = [] := List.length_eq_zero_iff.1 hs2
              have a3 : s.cs = [] := List.length_eq_zero_iff.1 (by have h1 := hN6.eqlen; have h2 := hZ6.eqlen; omega)
              have a4 : r.cs = [] := List.length_eq_zero_iff.1 (by have h1 := M6.eqlen; have h2 := Z6.eqlen; omega)
              simp only [scl, a1, a2, a3, a4, List.map_nil, Int.mul_comm s.k r.k]
            rw [e3]
          · rw [if_neg hs2, if_pos hs1]
        go_wp2_with (fail)
        have hD6 : Below w6.heap.size w6 w6.drew := (Below.refl _ _).drew
        clear q0 q1 q2 q3 q4 q5 q6 q7 b0 b1 b2 b3
        have CP : Hid (∀ y : World, Below w6.heap.size w6 y → Calls Tryz.prog 40 #[.agg (sum4 no' co' m' c' m' d' r.k 0), .int .i64 s.k] y fun e w' => ∃ v, e = .returned v ∧ DSum w' (lin (.mk 5 0 emp [t, u])) v ∧ Below y.heap.size y w') := by
          intro y hy
          refine (rtimes_at r no' co' m' c' m' d' s.k y (M6.below (Nat.le_refl _) hy) (Z6.below (Nat.le_refl _) hy) (by omega) fR rfl (Sm.fits.k fS) (L6.below hy)).mono ?_
          rintro e w' ⟨v, rfl, h1, h2⟩
          exact ⟨v, rfl, by rw [HR.out, HR2]; exact h1, h2⟩
        clear HR hN6 hZ6 hK6 M6 Z6 L6
        go_region_held3 (fun y => (y.cell? ⟨g6, 0, none⟩ = some (.slice no m c) ∧ y.cell? ⟨g6, 1, none⟩ = some (.slice co m d) ∧ y.cell? ⟨g6, 2, none⟩ = some (.int .i64 s.k) ∧ y.cell? ⟨g6, 3, none⟩ = some (.int .i64 0)) ∧ y.cell? ⟨g6, 4, none⟩ = some (.slice no' m' c') ∧ y.cell? ⟨g6, 5, none⟩ = some (.slice co' m' d') ∧ y.cell? ⟨g6, 6, none⟩ = some (.int .i64 r.k) ∧ y.cell? ⟨g6, 7, none⟩ = some (.int .i64 0)) (first | exact PX.out _ hD6 | exact PX.out _ hE7 | exact PS.out _ _ _ _ | fail)
          (first | (go_at_call 40; refine (CP.out _ hD6).mono ?_; rintro e w7 ⟨v7, rfl, hS7, hB7⟩; obtain ⟨no5, co5, n5, c5, m5, d5, k5, e5, rfl⟩ := hS7.shape; have hE7 := bt2 hD6 hB7; have HF7 := HF6.keep hE7; obtain ⟨⟨z0, y0⟩, ⟨z1, y1⟩, ⟨z2, y2⟩, ⟨z3, y3⟩⟩ := cellsZ4 HF7.res; obtain ⟨⟨q0, q1, q2, q3⟩, q4, q5, q6, q7⟩ := PX.out _ hE7; have PS := mkHid (fun v0 v1 v2 v3 => (⟨⟨st4_cell hgR q0 v0 v1 v2 v3, st4_cell hgR q1 v0 v1 v2 v3, st4_cell hgR q2 v0 v1 v2 v3, st4_cell hgR q3 v0 v1 v2 v3⟩, st4_cell hgR q4 v0 v1 v2 v3, st4_cell hgR q5 v0 v1 v2 v3, st4_cell hgR q6 v0 v1 v2 v3, st4_cell hgR q7 v0 v1 v2 v3⟩ : (_ ∧ _ ∧ _ ∧ _) ∧ _ ∧ _ ∧ _ ∧ _)); have hR9 := rb_four HF7.res rfl (.slice no5 n5 c5) (.slice co5 m5 d5) (.int .i64 k5) (.int .i64 e5); have hD9 := mkHid (hS7.st4 HF7.res (.slice no5 n5 c5) (.slice co5 m5 d5) (.int .i64 k5) (.int .i64 e5)); have hB9 := mkHid ((bel_st3 HF7.bel (show w.heap.size ≤ w.heap.size + 1 by omega) (.slice no5 n5 c5) (.slice co5 m5 d5) (.int .i64 k5)).setCell (p := ⟨w.heap.size + 1, 3, none⟩) (show w.heap.size ≤ w.heap.size + 1 by omega) (.int .i64 e5))))
        go_wp2_with (fail)
        obtain ⟨k0, k1, k2, k3⟩ := cells4 hR9
        exact bodyPost_ret (v := .agg #[.slice no5 n5 c5, .slice co5 m5 d5, .int .i64 k5, .int .i64 e5]) (by simp [results, Tryz.results17, go_sem, k0, k1, k2, k3]) rfl ⟨_, rfl, hD9.out, hB9.out⟩
end Go.Proofs.YtiapkblebbcfbaaGreat.Gl
