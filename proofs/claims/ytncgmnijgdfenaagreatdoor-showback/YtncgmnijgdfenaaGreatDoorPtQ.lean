/- ShowBack. -/
import Derived.Test.YtncgmnijgdfenaaGreatDoorShE
import Derived.Test.YtncgmnijgdfenaaGreatDoorShc
import Derived.Test.YtncgmnijgdfenaaGreatDoorShD
import Derived.Test.YtncgmnijgdfenaaGreatDoorTrJ
import Derived.Laws.StructEq
import Derived.Test.YtncgmnijgdfenaaGreatDoorRows
import Derived.Test.YtncgmnijgdfenaaGreatDoorShL
import Derived.LaidMore
import Derived.OpenShut
import Derived.Lib.LaidTab
import Derived.Stop.LaidErr
import Derived.Test.YtncgmnijgdfenaaGreatDoorShQ
namespace Go.Proofs.YtncgmnijgdfenaaGreatDoor.Gl
open Go Go.RowKit
set_option linter.unusedVariables false
set_option linter.unusedSimpArgs false

/-- the printed text of a right formula is read as that formula -/
theorem an_back {f : Fm} (h : chk nmB f = 0) (hn : f.all nT nF = true) (hs : (shF f).size ≤ 4096) : An (shF f) (some f) 0 0 0 := by
  obtain ⟨_, _, hall⟩ := (chk_iff nmB f).1 h
  exact .ok hs (fm_words hall hn) (.ok (fm_whole hall)) h
theorem FmV.keep {W W' : World} {f : Fm} {v : Value} (h : FmV W f v) (hb : Below W.heap.size W W') : FmV W' f v := by
  obtain ⟨c0, c1, c2, c3, c4, e, hr⟩ := h
  exact ⟨_, _, _, _, _, e, hr.keep hb⟩
/-- a block, kept -/
theorem blk_keep {w w' : World} {k : Nat} {o : Obj} (h : w.heap[k]? = some o) (hb : Below w.heap.size w w') : w'.heap[k]? = some o := (hb.block k (Array.getElem?_eq_some_iff.1 h).1).trans h
theorem blk_alloc {w : World} {k : Nat} {o : Obj} (h : w.heap[k]? = some o) (o' : Obj) : (w.alloc o').heap[k]? = some o := (heap_alloc_old w o' (Array.getElem?_eq_some_iff.1 h).1).trans h
theorem blk_last {w : World} (o o' : Obj) : ((w.alloc o).alloc o').heap[w.heap.size + 1]? = some o' := by
  have := heap_alloc_new (w.alloc o) o'
  rwa [World.size_alloc] at this
theorem blk_cell {w : World} {k : Nat} {vs : Array Value} {t : TypeId} (h : w.heap[k]? = some (.cells vs t)) (o : Nat) : w.cell? ⟨k, o, none⟩ = vs[o]? := by rw [Lib.cell_of_heap h]
set_option maxRecDepth 100000 in
set_option maxHeartbeats 2000000 in
theorem back_no (f : Fm) (v : Value) (w : World) (hv : FmV w f v) (hP : Pw w) (hc : chk nmB f ≠ 0) :
    Calls Tryz.prog 3 #[v] w fun e w' => e = .returned (.bool true) ∧ Below w.heap.size w w' := by
  have S1 := mkHid (fun w1 h => fm_show w f v w1 hv h hP)
  have FX := mkHid (fun w1 (h : Below w.heap.size w w1) => fixed8_at w1 (hP.below h hP.lt))
  rw [if_neg hc] at S1
  have hn : ((chk nmB f : Int) == 0) = false := by rw [beq_eq_false_iff_ne]; omega
  obtain ⟨c0, c1, c2, c3, c4, rfl, -⟩ := hv
  have HB0 := mkHid ((Below.refl w.heap.size w).alloc (Nat.le_refl _) (.cells #[c0, c1, c2, c3, c4] 26))
  generalize chk nmB f = c at *
  clear hP hc
  go_enter Tryz.func3, Tryz.ntmps3
  go_wp2_with (fail)
  refine (S1.out _ HB0.out).mono ?_
  rintro e w2 ⟨rfl, hB2⟩
  have H2 := mkHid (HB0.out.trans (hB2.mono (by rw [World.size_alloc]; omega)))
  clear hB2
  go_wp2_with (fail)
  refine (FX.out _ H2.out).mono ?_
  rintro e w3 ⟨rfl, hB3⟩
  have H3 := mkHid (H2.out.trans (hB3.mono H2.out.size))
  clear hB3
  go_wp2_with (fail)
  refine (FX.out _ H3.out).mono ?_
  rintro e w4 ⟨rfl, hB4⟩
  have H4 := mkHid (H3.out.trans (hB4.mono H3.out.size))
  clear hB4
  go_wp2
  go_ret
  exact ⟨rfl, H4.out⟩
set_option maxRecDepth 100000 in
set_option maxHeartbeats 2000000 in
theorem back_long (f : Fm) (v : Value) (w : World) (hv : FmV w f v) (hP : Pw w) (hS : Sg w) (hc : chk nmB f = 0) (hl : 4096 < (shF f).size) (h64 : (shF f).size ≤ 9223372036854775807) :
    Calls Tryz.prog 3 #[v] w fun e w' => e = .returned (.bool true) ∧ Below w.heap.size w w' := by
  have S1 := mkHid (fun w1 h => fm_show w f v w1 hv h hP)
  have FX := mkHid (fun w1 (h : Below w.heap.size w w1) => fixed8_at w1 (hP.below h hP.lt))
  have PF := mkHid (fun w1 (h : Below w.heap.size w w1) => formula_any (.long hl) w1 (hS.below h) h64)
  rw [if_pos hc, hc] at S1
  obtain ⟨c0, c1, c2, c3, c4, rfl, -⟩ := hv
  have HB0 := mkHid ((Below.refl w.heap.size w).alloc (Nat.le_refl _) (.cells #[c0, c1, c2, c3, c4] 26))
  clear hP hc hS
  go_enter Tryz.func3, Tryz.ntmps3
  go_wp2_with (fail)
  refine (S1.out _ HB0.out).mono ?_
  rintro e w2 ⟨rfl, hB2⟩
  have H2 := mkHid (HB0.out.trans (hB2.mono (by rw [World.size_alloc]; omega)))
  clear hB2
  go_wp2_with (fail)
  refine (FX.out _ H2.out).mono ?_
  rintro e w3 ⟨rfl, hB3⟩
  have H3 := mkHid (H2.out.trans (hB3.mono H2.out.size))
  clear hB3
  go_wp2_with (fail)
  refine (PF.out _ H3.out).mono ?_
  rintro e w4 ⟨v, rfl, ⟨op, xs, m, bo, n1, c1, lo, ln, lc, rfl, -, -⟩, hB4⟩
  have H4 := mkHid (H3.out.trans (hB4.mono H3.out.size))
  clear hB4
  go_wp2
  go_ret
  exact ⟨rfl, bta (bta H4.out _) _⟩
set_option maxRecDepth 100000 in
set_option maxHeartbeats 4000000 in
theorem back_ok (f : Fm) (v : Value) (w : World) (hv : FmV w f v) (hP : Pw w) (hS : Sg w) (hc : chk nmB f = 0) (hl : (shF f).size ≤ 4096) :
    Calls Tryz.prog 3 #[v] w fun e w' => e = .returned (.bool true) ∧ Below w.heap.size w w' := by
  have hnum : f.all nT nF = true := by obtain ⟨c0, c1, c2, c3, c4, _, hr⟩ := hv; exact rdf_nums f _ _ _ _ _ hr
  have S1 := mkHid (fun w1 h => fm_show w f v w1 hv h hP)
  have FX := mkHid (fun w1 (h : Below w.heap.size w w1) => fixed8_at w1 (hP.below h hP.lt))
  have PF := mkHid (fun w1 (h : Below w.heap.size w w1) => formula_any (an_back hc hnum hl) w1 (hS.below h) (by omega))
  have S2 := mkHid (fun W (hW : Below w.heap.size w W) u (hu : FmV W f u) w1 h => fm_show W f u w1 hu h (hP.below hW hP.lt))
  have K2 := mkHid (fun W u (hu : FmV W f u) w1 h => rcheck_at W f u w1 hu h)
  have E2 := mkHid (fun W u (hu : FmV W f u) (hv' : FmV W f v) w1 h => rsameF_at W f f v u w1 hv' hu h)
  have KV := mkHid (fun W (h : Below w.heap.size w W) => hv.keep h)
  have hee : eqB f f = true := eqB_yes rfl
  rw [if_pos hc, hc] at S1 S2
  rw [hc] at K2
  rw [hee] at E2
  obtain ⟨c0, c1, c2, c3, c4, rfl, -⟩ := hv
  have HB0 := mkHid ((Below.refl w.heap.size w).alloc (Nat.le_refl _) (.cells #[c0, c1, c2, c3, c4] 26))
  clear hP hc hS hnum hee
  go_enter Tryz.func3, Tryz.ntmps3
  go_wp2_with (fail)
  refine (S1.out _ HB0.out).mono ?_
  rintro e w2 ⟨rfl, hB2⟩
  have H2 := mkHid (HB0.out.trans (hB2.mono (by rw [World.size_alloc]; omega)))
  have k2 := mkHid (blk_keep (heap_alloc_new w (.cells #[c0, c1, c2, c3, c4] 26)) hB2)
  clear hB2
  go_wp2_with (fail)
  refine (FX.out _ H2.out).mono ?_
  rintro e w3 ⟨rfl, hB3⟩
  have H3 := mkHid (H2.out.trans (hB3.mono H2.out.size))
  have k3 := mkHid (blk_keep k2.out hB3)
  clear hB3
  go_wp2_with (fail)
  refine (PF.out _ H3.out).mono ?_
  rintro e w4 ⟨u, rfl, ⟨op, xs, m, bo, n1, c1', lo, ln, lc, rfl, -, hs⟩, hB4⟩
  have HU := mkHid (show FmV w4 f (.agg #[.int .i64 op, .string xs, .int .i64 m, .slice bo n1 c1', .slice lo ln lc]) from ⟨_, _, _, _, _, rfl, (hs f rfl).plain⟩)
  have H4 := mkHid (H3.out.trans (hB4.mono H3.out.size))
  have k4 := mkHid (blk_alloc (blk_alloc (blk_keep k3.out hB4) (.cells #[.int .i64 op, .string xs, .int .i64 m, .slice bo n1 c1', .slice lo ln lc] 26)) (.cells #[.int .i64 0, .int .i64 0, .int .i64 0] 34))
  have j4 := mkHid (blk_alloc (heap_alloc_new w4 (.cells #[.int .i64 op, .string xs, .int .i64 m, .slice bo n1 c1', .slice lo ln lc] 26)) (.cells #[.int .i64 0, .int .i64 0, .int .i64 0] 34))
  have B4 : Below w4.heap.size w4 ((w4.alloc (.cells #[.int .i64 op, .string xs, .int .i64 m, .slice bo n1 c1', .slice lo ln lc] 26)).alloc (.cells #[.int .i64 0, .int .i64 0, .int .i64 0] 34)) := bta (bal w4 _) _
  have C4 := mkHid (K2.out w4 _ HU.out _ B4)
  have HB4 := mkHid B4
  clear hB4 hs B4
  go_wp2_with (fail)
  refine C4.out.mono ?_
  rintro e w5 ⟨rfl, hB5⟩
  have k5 := mkHid (blk_keep k4.out hB5)
  have j5 := mkHid (blk_keep j4.out hB5)
  have x0 := blk_cell k5.out 0
  have x1 := blk_cell k5.out 1
  have x2 := blk_cell k5.out 2
  have x3 := blk_cell k5.out 3
  have x4 := blk_cell k5.out 4
  have y0 := blk_cell j5.out 0
  have y1 := blk_cell j5.out 1
  have y2 := blk_cell j5.out 2
  have y3 := blk_cell j5.out 3
  have y4 := blk_cell j5.out 4
  have HB5 := mkHid (bt2 HB4.out hB5)
  have C5 := mkHid (E2.out w4 _ HU.out (KV.out _ H4.out) _ HB5.out)
  clear hB5
  go_wp2_with (fail)
  refine C5.out.mono ?_
  rintro e w6 ⟨rfl, hB6⟩
  have j6 := mkHid (blk_keep j5.out hB6)
  have z0 := blk_cell j6.out 0
  have z1 := blk_cell j6.out 1
  have z2 := blk_cell j6.out 2
  have z3 := blk_cell j6.out 3
  have z4 := blk_cell j6.out 4
  have HB6 := mkHid (bt2 HB5.out hB6)
  have C6 := mkHid (S2.out w4 H4.out _ HU.out _ HB6.out)
  clear hB6 x0 x1 x2 x3 x4 y0 y1 y2 y3 y4
  go_wp2_with (fail)
  refine C6.out.mono ?_
  rintro e w7 ⟨rfl, hB7⟩
  have HB7 := mkHid (H4.out.trans ((bt2 HB6.out hB7).mono H4.out.size))
  clear hB7 z0 z1 z2 z3 z4
  go_wp2
  go_ret
  exact ⟨rfl, HB7.out⟩
theorem showBack_walk (f : Fm) (v : Value) (w : World) (hv : FmV w f v) (hP : Pw w) (hS : Sg w) :
    Calls Tryz.prog 3 #[v] w fun e w' => e = .returned (.bool true) ∧ Below w.heap.size w w' := by
  by_cases hc : chk nmB f = 0
  · by_cases hl : (shF f).size ≤ 4096
    · exact back_ok f v w hv hP hS hc hl
    · obtain ⟨hsz, hdp, hall⟩ := (chk_iff nmB f).1 hc
      have hnum : f.all nT nF = true := by obtain ⟨c0, c1, c2, c3, c4, _, hr⟩ := hv; exact rdf_nums f _ _ _ _ _ hr
      have := fm_len f hall hnum
      rw [tb_len] at this
      exact back_long f v w hv hP hS hc (by omega) (by omega)
  · exact back_no f v w hv hP hc
end Go.Proofs.YtncgmnijgdfenaaGreatDoor.Gl
/- The table of powers, as the row lists it. -/
namespace Go.Proofs.YtncgmnijgdfenaaGreatDoor.Gl
open Go Go.RowKit
set_option linter.unusedVariables false

theorem pw_of_laid {W : World} (h : laidMetH Tryz.prog Rows.showBackRow.laid W) : Pw W := by
  rw [MakeChecks.laidMetH_plain _ _ _ (by kernel_rfl)] at h
  have gS : Tryz.prog.globalNamed "internal/strconv.uint64pow10" = some 1 := by kernel_rfl
  have ht := Lib.tabIs_of_head (P := Tryz.prog) (W := W) (name := "internal/strconv.uint64pow10") (k := .u64) (zs := Lib.pow10Tab) (e := 144) (n := 20) gS (by kernel_rfl) Tryz.underlying154 Tryz.underlying144 (by kernel_rfl) (by kernel_rfl) h.tail.tail
  unfold Lib.TabIs World.var? at ht
  rw [gS] at ht
  simp only [Option.bind_some] at ht
  split at ht
  · rename_i cs t fr heq
    cases ht
    exact ⟨_, _, heq⟩
  · cases ht
end Go.Proofs.YtncgmnijgdfenaaGreatDoor.Gl
/- ShowReads. -/
namespace Go.Proofs.YtncgmnijgdfenaaGreatDoor.Gl
open Go Go.RowKit
set_option linter.unusedVariables false
set_option linter.unusedSimpArgs false

theorem An.two {s : ByteArray} {o : Option Fm} {c b k : Nat} (h : An s o c b k) : (c = 0 ∧ b = 0 ∧ k = 0 ∧ ∃ f, o = some f ∧ chk nmB f = 0) ∨ (c ≠ 0 ∧ o = none) := by
  cases h with
  | long _ => exact .inr ⟨by decide, rfl⟩
  | lex _ hl => have := hl.cs (c := 0) (q := 0) _ _ rfl; exact .inr ⟨by omega, rfl⟩
  | bad _ _ hf => have := hf.why.1; exact .inr ⟨by omega, rfl⟩
  | many _ _ _ hc => exact .inr ⟨hc, rfl⟩
  | ok _ _ _ hc => exact .inl ⟨rfl, rfl, rfl, _, rfl, hc⟩
theorem z8_fm (w : World) : FmV w (.mk 0 emp 0 [] []) nilF := by
  refine ⟨_, _, _, _, _, rfl, ?_⟩
  rw [RdF]
  exact ⟨rfl, rfl, rfl, ⟨by unfold I64; omega, by unfold I64; omega, by unfold Sz; decide⟩, ⟨none, 0, rfl, Nat.le_refl _, by unfold Sz; omega, by rw [RdTL]; trivial⟩, none, 0, rfl, Nat.le_refl _, by unfold Sz; omega, by rw [RdFL]; trivial⟩
theorem z8_chk : chk nmB (.mk 0 emp 0 [] []) = 0 := by simp [chk, meterF, meterFL, meterTL, meterT, St.node, wellF, wellT, wF, wT]
theorem z8_text : shF (.mk 0 emp 0 [] []) = kTrue := tb_inj tf_tru
abbrev flt (c b k : Nat) : Array Value := #[.int .i64 (c : Nat), .int .i64 (b : Nat), .int .i64 (k : Nat)]
set_option maxRecDepth 100000 in
set_option maxHeartbeats 2000000 in
theorem reads_no (s : ByteArray) (c b k : Nat) (w : World) (h : An s none c b k) (hc : c ≠ 0) (hP : Pw w) (hS : Sg w) (h64 : s.size ≤ 9223372036854775807) :
    Calls Tryz.prog 5 #[.string s] w fun e w' => e = .returned (.bool true) ∧ Below w.heap.size w w' := by
  have PF := mkHid (formula_any h w hS h64)
  have FX := mkHid (fun w1 (h : Below w.heap.size w w1) => fixed8_at w1 (hP.below h hP.lt))
  have S2 := mkHid (fun w1 (h : Below w.heap.size w w1) => fm_show w1 _ _ w1 (z8_fm w1) (Below.refl _ _) (hP.below h hP.lt))
  rw [z8_chk, if_pos rfl, z8_text] at S2
  have hn : ((c : Int) == 0) = false := by rw [beq_eq_false_iff_ne]; omega
  clear hP hS h hc
  go_enter Tryz.func5, Tryz.ntmps5
  go_wp2_with (fail)
  refine PF.out.mono ?_
  rintro e w2 ⟨v, rfl, ⟨op, xs, m, bo, n1, c1, lo, ln, lc, rfl, hnl, -⟩, hB2⟩
  have hnl' := hnl rfl
  simp only [nilF, Value.agg.injEq, Array.mk.injEq, List.cons.injEq, and_true] at hnl'
  obtain ⟨q0, q1, q2, q3, q4⟩ := hnl'
  rw [q0, q1, q2, q3, q4]
  clear hnl q0 q1 q2 q3 q4
  have H3 := mkHid (bta (bta hB2 (.cells zF 26)) (.cells (flt c b k) 34))
  have k3 := mkHid (blk_alloc (heap_alloc_new w2 (.cells zF 26)) (.cells (flt c b k) 34))
  have j3 := mkHid (blk_last (w := w2) (.cells zF 26) (.cells (flt c b k) 34))
  have hs2 := hB2.size
  clear hB2
  go_wp2_with (fail)
  refine (FX.out _ H3.out).mono ?_
  rintro e w4 ⟨rfl, hB4⟩
  have k4 := mkHid (blk_keep k3.out hB4)
  have j4 := mkHid (blk_keep j3.out hB4)
  have x0 := blk_cell k4.out 0
  have x1 := blk_cell k4.out 1
  have x2 := blk_cell k4.out 2
  have x3 := blk_cell k4.out 3
  have x4 := blk_cell k4.out 4
  have H4 := mkHid (H3.out.trans (hB4.mono H3.out.size))
  clear hB4
  go_wp2_with (fail)
  refine (S2.out _ H4.out).mono ?_
  rintro e w5 ⟨rfl, hB5⟩
  have j5 := mkHid (blk_keep j4.out hB5)
  have y0 := blk_cell j5.out 0
  have y1 := blk_cell j5.out 1
  have y2 := blk_cell j5.out 2
  have H5 := mkHid (H4.out.trans (hB5.mono H4.out.size))
  clear hB5 x0 x1 x2 x3 x4
  go_wp2
  go_ret
  exact ⟨rfl, H5.out⟩
set_option maxRecDepth 100000 in
set_option maxHeartbeats 4000000 in
theorem reads_yes (s : ByteArray) (f : Fm) (w : World) (h : An s (some f) 0 0 0) (hc : chk nmB f = 0) (hP : Pw w) (hS : Sg w) (h64 : s.size ≤ 9223372036854775807) :
    Calls Tryz.prog 5 #[.string s] w fun e w' => e = .returned (.bool true) ∧ Below w.heap.size w w' := by
  have PF := mkHid (formula_any h w hS h64)
  have FX := mkHid (fun w1 (h : Below w.heap.size w w1) => fixed8_at w1 (hP.below h hP.lt))
  have S2 := mkHid (fun W (hW : Below w.heap.size w W) u (hu : FmV W f u) w1 h => fm_show W f u w1 hu h (hP.below hW hP.lt))
  have K2 := mkHid (fun W u (hu : FmV W f u) w1 h => rcheck_at W f u w1 hu h)
  have E2 := mkHid (fun W v u (hu : FmV W f u) (hv' : FmV W f v) w1 h => rsameF_at W f f v u w1 hv' hu h)
  obtain ⟨hsz, hdp, hall⟩ := (chk_iff nmB f).1 hc
  have hee : eqB f f = true := eqB_yes rfl
  have P2 := mkHid (fun (hn : f.all nT nF = true) (hl : (shF f).size ≤ 4096) w1 (h : Below w.heap.size w w1) => formula_any (an_back hc hn hl) w1 (hS.below h) (by omega))
  have P3 := mkHid (fun (hl : 4096 < (shF f).size) (hz : (shF f).size ≤ 100000) w1 (h : Below w.heap.size w w1) => formula_any (.long hl) w1 (hS.below h) (by omega))
  have LN := mkHid (fun (hn : f.all nT nF = true) => show (shF f).size ≤ 100000 by have := fm_len f hall hn; rw [tb_len] at this; omega)
  have NU := mkHid (fun W v (hv : FmV W f v) => show f.all nT nF = true by obtain ⟨c0, c1, c2, c3, c4, _, hr⟩ := hv; exact rdf_nums f _ _ _ _ _ hr)
  rw [if_pos hc, hc] at S2
  rw [hc] at K2
  rw [hee] at E2
  clear hP hS h hc hee hall hsz hdp
  go_enter Tryz.func5, Tryz.ntmps5
  go_wp2_with (fail)
  refine PF.out.mono ?_
  rintro e w2 ⟨v, rfl, ⟨op, xs, m, bo, n1, c1, lo, ln, lc, rfl, -, hs⟩, hB2⟩
  have HV := mkHid (show FmV w2 f (.agg #[.int .i64 op, .string xs, .int .i64 m, .slice bo n1 c1, .slice lo ln lc]) from ⟨_, _, _, _, _, rfl, (hs f rfl).plain⟩)
  have HN := mkHid (NU.out _ _ HV.out)
  have H2 := mkHid hB2
  have H3 := mkHid (bta (bta hB2 (.cells #[.int .i64 op, .string xs, .int .i64 m, .slice bo n1 c1, .slice lo ln lc] 26)) (.cells (flt 0 0 0) 34))
  have R3 := mkHid (bta (bal w2 (.cells #[.int .i64 op, .string xs, .int .i64 m, .slice bo n1 c1, .slice lo ln lc] 26)) (.cells (flt 0 0 0) 34))
  have k3 := mkHid (blk_alloc (heap_alloc_new w2 (.cells #[.int .i64 op, .string xs, .int .i64 m, .slice bo n1 c1, .slice lo ln lc] 26)) (.cells (flt 0 0 0) 34))
  have j3 := mkHid (blk_last (w := w2) (.cells #[.int .i64 op, .string xs, .int .i64 m, .slice bo n1 c1, .slice lo ln lc] 26) (.cells (flt 0 0 0) 34))
  clear hB2 hs
  go_wp2_with (fail)
  refine (FX.out _ H3.out).mono ?_
  rintro e w4 ⟨rfl, hB4⟩
  have k4 := mkHid (blk_keep k3.out hB4)
  have j4 := mkHid (blk_keep j3.out hB4)
  have R4 := mkHid (bt2 R3.out hB4)
  have x0 := blk_cell k4.out 0
  have x1 := blk_cell k4.out 1
  have x2 := blk_cell k4.out 2
  have x3 := blk_cell k4.out 3
  have x4 := blk_cell k4.out 4
  have H4 := mkHid (H3.out.trans (hB4.mono H3.out.size))
  have C4 := mkHid (S2.out w2 H2.out _ HV.out _ R4.out)
  clear hB4
  go_wp2_with (fail)
  refine C4.out.mono ?_
  rintro e w5 ⟨rfl, hB5⟩
  have k5 := mkHid (blk_keep k4.out hB5)
  have j5 := mkHid (blk_keep j4.out hB5)
  have R5 := mkHid (bt2 R4.out hB5)
  have H5 := mkHid (H4.out.trans (hB5.mono H4.out.size))
  have y0 := blk_cell j5.out 0
  have y1 := blk_cell j5.out 1
  have y2 := blk_cell j5.out 2
  have z0 := blk_cell k5.out 0
  have z1 := blk_cell k5.out 1
  have z2 := blk_cell k5.out 2
  have z3 := blk_cell k5.out 3
  have z4 := blk_cell k5.out 4
  have C5 := mkHid (K2.out w2 _ HV.out _ R5.out)
  clear hB5 x0 x1 x2 x3 x4
  go_wp2_with (fail)
  refine C5.out.mono ?_
  rintro e w6 ⟨rfl, hB6⟩
  have k6 := mkHid (blk_keep k5.out hB6)
  have j6 := mkHid (blk_keep j5.out hB6)
  have R6 := mkHid (bt2 R5.out hB6)
  have H6 := mkHid (H5.out.trans (hB6.mono H5.out.size))
  have hs26 := R6.out.size
  clear hB6 y0 y1 y2 z0 z1 z2 z3 z4
  by_cases hl : (shF f).size ≤ 4096
  · have C6 := mkHid (P2.out HN.out hl w6 H6.out)
    go_wp2_with (fail)
    refine C6.out.mono ?_
    rintro e w7 ⟨u, rfl, ⟨op', xs', m', bo', n1', c1', lo', ln', lc', rfl, -, hs⟩, hB7⟩
    have hlt6 : w2.heap.size + 1 < w6.heap.size := (Array.getElem?_eq_some_iff.1 j6.out).1
    have R7 := mkHid (bta (bt2 R6.out hB7) (.cells #[.int .i64 op', .string xs', .int .i64 m', .slice bo' n1' c1', .slice lo' ln' lc'] 26))
    have H7 := mkHid (bta (H6.out.trans (hB7.mono H6.out.size)) (.cells #[.int .i64 op', .string xs', .int .i64 m', .slice bo' n1' c1', .slice lo' ln' lc'] 26))
    have hs7 := hB7.size
    have k7 := mkHid (blk_alloc (blk_keep k6.out hB7) (.cells #[.int .i64 op', .string xs', .int .i64 m', .slice bo' n1' c1', .slice lo' ln' lc'] 26))
    have j7 : Rb (w7.alloc (.cells #[.int .i64 op', .string xs', .int .i64 m', .slice bo' n1' c1', .slice lo' ln' lc'] 26)) (w2.heap.size + 1) (flt 0 0 0) 34 := blk_alloc (blk_keep j6.out hB7) _
    obtain ⟨y0, f0⟩ := txcell j7 0 _ rfl
    obtain ⟨y1, f1⟩ := txcell j7 1 _ rfl
    obtain ⟨y2, f2⟩ := txcell j7 2 _ rfl
    obtain ⟨W8, hW8⟩ : ∃ W8, st3 (w7.alloc (.cells #[.int .i64 op', .string xs', .int .i64 m', .slice bo' n1' c1', .slice lo' ln' lc'] 26)) (w2.heap.size + 1) (.int .i64 0) (.int .i64 0) (.int .i64 0) = W8 := ⟨_, rfl⟩
    have j8 : Rb W8 (w2.heap.size + 1) (flt 0 0 0) 34 := by rw [← hW8]; exact rb_three j7 rfl _ _ _
    have k8 : Rb W8 w2.heap.size #[.int .i64 op, .string xs, .int .i64 m, .slice bo n1 c1, .slice lo ln lc] 26 := by rw [← hW8]; exact Rb.st3 (show Rb _ w2.heap.size _ _ from k7.out) (by omega) _ _ _
    have g8 : Rb W8 w7.heap.size #[.int .i64 op', .string xs', .int .i64 m', .slice bo' n1' c1', .slice lo' ln' lc'] 26 := by rw [← hW8]; exact Rb.st3 (rb_new w7 _ _) (by omega) _ _ _
    have R8 : Below w2.heap.size w2 W8 := by rw [← hW8]; exact bel_st3 R7.out (by omega) _ _ _
    have H8 : Below w.heap.size w W8 := by rw [← hW8]; exact bel_st3 H7.out (by have := H2.out.size; omega) _ _ _
    have hu8 : FmV W8 f (.agg #[.int .i64 op', .string xs', .int .i64 m', .slice bo' n1' c1', .slice lo' ln' lc']) := by
      have hHi : Hi (Ge w6.heap.size) w7 W8 := by
        rw [← hW8]
        have hne : ∀ i, Ge w6.heap.size i → i ≠ w2.heap.size + 1 := fun i hi => by have h2 : w6.heap.size ≤ i := hi; omega
        exact (((Hi.of (bal w7 _)).set hne 0 _).set hne 1 _).set hne 2 _
      exact ⟨_, _, _, _, _, rfl, (RdFn.keep hHi _ _ _ _ _ _ (hs f rfl)).plain⟩
    have hv8 : FmV W8 f (.agg #[.int .i64 op, .string xs, .int .i64 m, .slice bo n1 c1, .slice lo ln lc]) := HV.out.keep R8
    have C8 := mkHid (K2.out W8 _ hu8 _ (Below.refl _ _))
    have D8 := mkHid (fun w1 h => E2.out W8 _ _ hu8 hv8 w1 h)
    have hJ := mkHid j8
    have hK := mkHid k8
    have hG := mkHid g8
    have HH := mkHid H8
    obtain ⟨a0, -⟩ := txcell j8 0 _ rfl
    obtain ⟨a1, -⟩ := txcell j8 1 _ rfl
    obtain ⟨a2, -⟩ := txcell j8 2 _ rfl
    obtain ⟨b0, -⟩ := txcell g8 0 _ rfl
    obtain ⟨b1, -⟩ := txcell g8 1 _ rfl
    obtain ⟨b2, -⟩ := txcell g8 2 _ rfl
    obtain ⟨b3, -⟩ := txcell g8 3 _ rfl
    obtain ⟨b4, -⟩ := txcell g8 4 _ rfl
    subst hW8
    clear hs hB7 j7 j8 k8 g8 R8 H8 hu8 hv8
    go_wp2_with (fail)
    refine C8.out.mono ?_
    rintro e w9 ⟨rfl, hB9⟩
    have hK9 := mkHid (hK.out.keep hB9)
    have hG9 := mkHid (hG.out.keep hB9)
    obtain ⟨p0, -⟩ := txcell hK9.out 0 _ rfl
    obtain ⟨p1, -⟩ := txcell hK9.out 1 _ rfl
    obtain ⟨p2, -⟩ := txcell hK9.out 2 _ rfl
    obtain ⟨p3, -⟩ := txcell hK9.out 3 _ rfl
    obtain ⟨p4, -⟩ := txcell hK9.out 4 _ rfl
    obtain ⟨q0, -⟩ := txcell hG9.out 0 _ rfl
    obtain ⟨q1, -⟩ := txcell hG9.out 1 _ rfl
    obtain ⟨q2, -⟩ := txcell hG9.out 2 _ rfl
    obtain ⟨q3, -⟩ := txcell hG9.out 3 _ rfl
    obtain ⟨q4, -⟩ := txcell hG9.out 4 _ rfl
    have D9 := mkHid (D8.out w9 hB9)
    have H9 := mkHid (HH.out.trans (hB9.mono HH.out.size))
    clear hB9 y0 y1 y2 f0 f1 f2 a0 a1 a2 b0 b1 b2 b3 b4
    go_wp2_with (fail)
    refine D9.out.mono ?_
    rintro e w10 ⟨rfl, hB10⟩
    have H10 := mkHid (H9.out.trans (hB10.mono H9.out.size))
    clear hB10 p0 p1 p2 p3 p4 q0 q1 q2 q3 q4
    go_wp2
    go_ret
    exact ⟨rfl, H10.out⟩
  · have hz := LN.out HN.out
    have C6 := mkHid (P3.out (by omega) hz w6 H6.out)
    have hl' : (4096 : Int) < ((shF f).size : Int) := by omega
    go_wp2_with (fail)
    refine C6.out.mono ?_
    rintro e w7 ⟨u, rfl, ⟨op', xs', m', bo', n1', c1', lo', ln', lc', rfl, -, -⟩, hB7⟩
    have H7 := mkHid (bta (H6.out.trans (hB7.mono H6.out.size)) (.cells #[.int .i64 op', .string xs', .int .i64 m', .slice bo' n1' c1', .slice lo' ln' lc'] 26))
    have hs7 := hB7.size
    have hsw := H2.out.size
    have j7 : Rb (w7.alloc (.cells #[.int .i64 op', .string xs', .int .i64 m', .slice bo' n1' c1', .slice lo' ln' lc'] 26)) (w2.heap.size + 1) (flt 0 0 0) 34 := blk_alloc (blk_keep j6.out hB7) _
    obtain ⟨y0, f0⟩ := txcell j7 0 _ rfl
    obtain ⟨y1, f1⟩ := txcell j7 1 _ rfl
    obtain ⟨y2, f2⟩ := txcell j7 2 _ rfl
    clear hB7 j7
    go_wp2
    go_ret
    exact ⟨rfl, bel_st3 H7.out (by omega) _ _ _⟩
theorem showReads_walk (s : ByteArray) (w : World) (hP : Pw w) (hS : Sg w) (h64 : s.size ≤ 9223372036854775807) :
    Calls Tryz.prog 5 #[.string s] w fun e w' => e = .returned (.bool true) ∧ Below w.heap.size w w' := by
  obtain ⟨o, c, b, k, h⟩ := An.ex s
  rcases h.two with ⟨rfl, rfl, rfl, f, rfl, hc⟩ | ⟨hc, rfl⟩
  · exact reads_yes s f w h hc hP hS h64
  · exact reads_no s c b k w h hc hP hS h64
end Go.Proofs.YtncgmnijgdfenaaGreatDoor.Gl
/- The landed whole, of a term: a fault of its words. -/
namespace Go.Proofs.YtncgmnijgdfenaaGreatDoor.Gl
open Go.RowKit
set_option linter.unusedVariables false
set_option linter.unusedSimpArgs false

theorem bel_st4 {b B : Nat} {w w' : World} (h : Below b w w') (hB : b ≤ B) (v0 v1 v2 v3 : Value) : Below b w (st4 w' B v0 v1 v2 v3) := (((h.setCell (p := ⟨B, 0, none⟩) hB v0).setCell (p := ⟨B, 1, none⟩) hB v1).setCell (p := ⟨B, 2, none⟩) hB v2).setCell (p := ⟨B, 3, none⟩) hB v3
/-- what is said of all the words of a term -/
inductive FinT (ws : List Wd) : Out Tm → Prop
  | bad {e q} : PT ws .sum 0 (.bad e q) → FinT ws (.bad e q)
  | rest {t q} : PT ws .sum 0 (.ok t q) → q < ws.length → FinT ws (.bad 71 q)
  | ok {t} : PT ws .sum 0 (.ok t ws.length) → FinT ws (.ok t ws.length)
/-- what a text is as a term: the term, or why not and where -/
inductive AnT (s : ByteArray) : Option Tm → Nat → Nat → Nat → Prop
  | long : 4096 < s.size → AnT s none 70 0 0
  | lex {a c p} : s.size ≤ 4096 → Lx s 0 a (some (c, p)) → AnT s none c p (cnt (s.extract 0 p))
  | bad {a y q} : s.size ≤ 4096 → Lx s 0 a none → FinT a (.bad y q) → AnT s none y (pcB s a q) (pcC s a q)
  | many {a f q} : s.size ≤ 4096 → Lx s 0 a none → FinT a (.ok f q) → chkT nmB f ≠ 0 → AnT s none (chkT nmB f) 0 0
  | ok {a f q} : s.size ≤ 4096 → Lx s 0 a none → FinT a (.ok f q) → chkT nmB f = 0 → AnT s (some f) 0 0 0
theorem FinT.ex (ws : List Wd) : ∃ r, FinT ws r := by
  obtain ⟨r, hr⟩ := (PT.ex ws _ 0 (Nat.le_refl _)).2.2.1
  cases r with
  | bad e q => exact ⟨_, .bad hr⟩
  | ok t q =>
    have := hr.far
    simp only [Out.far, QT.more] at this
    by_cases h : q < ws.length
    · exact ⟨_, .rest hr h⟩
    · obtain rfl : q = ws.length := by omega
      exact ⟨_, .ok hr⟩
theorem AnT.ex (s : ByteArray) : ∃ o c b k, AnT s o c b k := by
  by_cases h : 4096 < s.size
  · exact ⟨_, _, _, _, .long h⟩
  · obtain ⟨a, f, hl⟩ := Lx.ex s
    cases f with
    | some cp => obtain ⟨c, p⟩ := cp; exact ⟨_, _, _, _, .lex (by omega) hl⟩
    | none =>
      obtain ⟨r, hr⟩ := FinT.ex a
      cases r with
      | bad e q => exact ⟨_, _, _, _, .bad (by omega) hl hr⟩
      | ok f q =>
        by_cases h0 : chkT nmB f = 0
        · exact ⟨_, _, _, _, .ok (by omega) hl hr h0⟩
        · exact ⟨_, _, _, _, .many (by omega) hl hr h0⟩
abbrev nilT : Value := .agg #[.int .i64 0, .int .i64 0, .string emp, .slice none 0 0]
/-- the value beside a fault, or the term's, its lists in blocks from B on -/
def TmA (B : Nat) (w : World) (o : Option Tm) (v : Value) : Prop := ∃ op m xs ao n c, v = .agg #[.int .i64 op, .int .i64 m, .string xs, .slice ao n c] ∧ (o = none → v = nilT) ∧ ∀ f, o = some f → RdTn (Ge B) w f (.int .i64 op) (.int .i64 m) (.string xs) (.slice ao n c)
set_option maxRecDepth 100000 in
set_option maxHeartbeats 1000000 in
theorem twhole_fault (s : ByteArray) (w : World) (c b k : Nat) (hc : c ≠ 0) (hS : Sg w)
    (LW0 : ∀ w, Sg w → Calls Tryz.prog 33 #[.string s] w fun e w' => ∃ v, e = .returned (.tuple #[v, fau c b k]) ∧ w'.ownsRow w.heap.size 116 5 v 0 [] ∧ Below w.heap.size w w') :
    Calls Tryz.prog 24 #[.string s, .func (.func 25) #[] #[], .func (.func 22) #[] #[]] w fun e w' => e = .returned (.tuple #[nilT, fau c b k]) ∧ Below w.heap.size w w' := by
  have hc' : ((c : Int) == 0) = false := by rw [beq_eq_false_iff_ne]; omega
  have LW := mkHid (LW0 _ (((hS.alloc (.cells zT 42)).alloc (.cells zA 34)).alloc (.cells zT 42)))
  have hB3 : Below w.heap.size w (((w.alloc (.cells zT 42)).alloc (.cells zA 34)).alloc (.cells zT 42)) := bta (bta (bal w _) _) _
  have hF1 : Rb (((w.alloc (.cells zT 42)).alloc (.cells zA 34)).alloc (.cells zT 42)) w.heap.size zT 42 := ((rb_new w zT 42).keep (bal _ _)).keep (bal _ _)
  have hF2 : Rb (((w.alloc (.cells zT 42)).alloc (.cells zA 34)).alloc (.cells zT 42)) (w.heap.size + 1) zA 34 := by
    have := (rb_new (w.alloc (.cells zT 42)) zA 34).keep (bal _ (.cells zT 42))
    rwa [World.size_alloc] at this
  have hX8 : Rb (((w.alloc (.cells zT 42)).alloc (.cells zA 34)).alloc (.cells zT 42)) (w.heap.size + 2) zT 42 := by
    have := rb_new ((w.alloc (.cells zT 42)).alloc (.cells zA 34)) zT 42
    rwa [World.size_alloc, World.size_alloc] at this
  clear LW0
  go_enter Tryz.func24, Tryz.ntmps24
  go_wp2_with (go_at_call 33; refine (LW.out).mono ?_; rintro e w4 ⟨v, rfl, -, hB4⟩; have hF1' := (hF1.keep hB4).keep (bal w4 (.cells #[.int .i64 (c : Nat), .int .i64 (b : Nat), .int .i64 (k : Nat)] 34)); have hF2' := (hF2.keep hB4).keep (bal w4 (.cells #[.int .i64 (c : Nat), .int .i64 (b : Nat), .int .i64 (k : Nat)] 34)); have hX8' := (hX8.keep hB4).keep (bal w4 (.cells #[.int .i64 (c : Nat), .int .i64 (b : Nat), .int .i64 (k : Nat)] 34)); have hs4 := (Array.getElem?_eq_some_iff.1 (hX8.keep hB4)).1; obtain ⟨x0, -⟩ := txcell hX8' 0 _ rfl; obtain ⟨x1, -⟩ := txcell hX8' 1 _ rfl; obtain ⟨x2, -⟩ := txcell hX8' 2 _ rfl; obtain ⟨x3, -⟩ := txcell hX8' 3 _ rfl; obtain ⟨a0, g0⟩ := txcell hF1' 0 _ rfl; obtain ⟨a1, g1⟩ := txcell hF1' 1 _ rfl; obtain ⟨a2, g2⟩ := txcell hF1' 2 _ rfl; obtain ⟨a3, g3⟩ := txcell hF1' 3 _ rfl; obtain ⟨b0, f0⟩ := txcell hF2' 0 _ rfl; obtain ⟨b1, f1⟩ := txcell hF2' 1 _ rfl; obtain ⟨b2, f2⟩ := txcell hF2' 2 _ rfl)
  have hRa := (rb_four hF1' rfl (.int .i64 0) (.int .i64 0) (.string emp) (.slice none 0 0)).st3 (X := w.heap.size + 1) (by omega) (.int .i64 (c : Nat)) (.int .i64 (b : Nat)) (.int .i64 (k : Nat))
  have hRb := rb_three (hF2'.st4 (X := w.heap.size) (by omega) (.int .i64 0) (.int .i64 0) (.string emp) (.slice none 0 0)) rfl (.int .i64 (c : Nat)) (.int .i64 (b : Nat)) (.int .i64 (k : Nat))
  have hBz := bel_st3 (bel_st4 (bta (bt2 hB3 hB4) (.cells #[.int .i64 (c : Nat), .int .i64 (b : Nat), .int .i64 (k : Nat)] 34)) (Nat.le_refl _) (.int .i64 0) (.int .i64 0) (.string emp) (.slice none 0 0)) (Nat.le_succ _) (.int .i64 (c : Nat)) (.int .i64 (b : Nat)) (.int .i64 (k : Nat))
  obtain ⟨k0, -⟩ := txcell hRa 0 _ rfl
  obtain ⟨k1, -⟩ := txcell hRa 1 _ rfl
  obtain ⟨k2, -⟩ := txcell hRa 2 _ rfl
  obtain ⟨k3, -⟩ := txcell hRa 3 _ rfl
  obtain ⟨l0, -⟩ := txcell hRb 0 _ rfl
  obtain ⟨l1, -⟩ := txcell hRb 1 _ rfl
  obtain ⟨l2, -⟩ := txcell hRb 2 _ rfl
  go_region_with (fail)
  all_goals
    go_wp2
    exact bodyPost_ret (v := .tuple #[nilT, fau c b k]) (by simp [results, Tryz.results24, go_sem, k0, k1, k2, k3, l0, l1, l2]) rfl ⟨rfl, hBz.drew⟩
end Go.Proofs.YtncgmnijgdfenaaGreatDoor.Gl
