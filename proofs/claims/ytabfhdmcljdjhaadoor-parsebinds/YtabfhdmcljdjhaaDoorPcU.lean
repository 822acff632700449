/- Answers that the document fixes: two texts, read by hand. -/
import Derived.Test.YtabfhdmcljdjhaaDoorPcT
import Derived.Laws.StructEq
namespace Go.Proofs.YtabfhdmcljdjhaaDoor.Gl
open Go.RowKit
set_option linter.unusedVariables false
set_option linter.unusedSimpArgs false

abbrev fyt : ByteArray := ⟨#[120, 32, 60, 61, 32, 49]⟩
abbrev fzt : ByteArray := ⟨#[120, 32, 61, 32, 61, 32, 49]⟩
theorem tw {t : Tk} {k v q : Nat} {x : ByteArray} (h : (match t with | .word k' y v' q' => k' == k && y.toList == x.toList && v' == v && q' == q | _ => false) = true) : t = .word k x v q := by
  split at h
  · simp only [Bool.and_eq_true, beq_iff_eq] at h
    obtain ⟨⟨⟨h1, h2⟩, h3⟩, h4⟩ := h
    rw [h1, toList_inj h2, h3, h4]
  · cases h
theorem tb {t : Tk} (h : (match t with | .blank => true | _ => false) = true) : t = .blank := by
  cases t with
  | blank => rfl
  | bad e => cases h
  | word _ _ _ _ => cases h
abbrev wx : Wd := ⟨0, ⟨#[120]⟩, 0, 0⟩
abbrev wle : Wd := ⟨2, ⟨#[60, 61]⟩, 0, 2⟩
abbrev w1 : Wd := ⟨1, emp, 1, 5⟩
abbrev weq (p : Nat) : Wd := ⟨2, ⟨#[61]⟩, 0, p⟩
theorem fy_lx : Lx fyt 0 [wx, wle, ⟨1, emp, 1, 5⟩] none :=
  .word (by decide) (tw (q := 1) (by decide +kernel)) (.blank (by decide) (tb (by decide +kernel)) (.word (by decide) (tw (q := 4) (by decide +kernel)) (.blank (by decide) (tb (by decide +kernel)) (.word (by decide) (tw (q := 6) (by decide +kernel)) (.done (by decide))))))
theorem fz_lx : Lx fzt 0 [wx, weq 2, weq 4, ⟨1, emp, 1, 6⟩] none :=
  .word (by decide) (tw (q := 1) (by decide +kernel)) (.blank (by decide) (tb (by decide +kernel)) (.word (by decide) (tw (q := 3) (by decide +kernel)) (.blank (by decide) (tb (by decide +kernel)) (.word (by decide) (tw (q := 5) (by decide +kernel)) (.blank (by decide) (tb (by decide +kernel)) (.word (by decide) (tw (q := 7) (by decide +kernel)) (.done (by decide))))))))
/-- a term that is one word -/
theorem pt_one {ws : List Wd} {p : Nat} {t : Tm} (h : PT ws .fac p (.ok t (p + 1))) (h1 : ¬ IsS ws (p + 1) kStar) (h2 : ¬ IsS ws (p + 1) kPlus) (h3 : ¬ IsS ws (p + 1) kMinus) : PT ws .sum p (.ok t (p + 1)) :=
  .sum (.prod h (.prodStop h1)) (.sumStop h2 h3)
theorem noS_end {ws : List Wd} {p : Nat} {x : ByteArray} (h : ws.length ≤ p) : ¬ IsS ws p x := fun k => by have := k.lt; omega
abbrev fyF : Fm := .mk 9 emp 0 [.mk 1 0 ⟨#[120]⟩ [], .mk 0 1 emp []] []
theorem fy_whole : Fin6 [wx, wle, ⟨1, emp, 1, 5⟩] (.ok fyF 3) := by
  have n0 : IsN [wx, wle, ⟨1, emp, 1, 5⟩] 0 ⟨#[120]⟩ := ⟨_, rfl, rfl, rfl⟩
  have s1 : IsS [wx, wle, ⟨1, emp, 1, 5⟩] 1 ⟨#[60, 61]⟩ := ⟨_, rfl, rfl, rfl⟩
  have d2 : IsD [wx, wle, ⟨1, emp, 1, 5⟩] 2 1 := ⟨_, rfl, rfl, rfl⟩
  have a : PA [wx, wle, ⟨1, emp, 1, 5⟩] 0 (.ok fyF 3) := .rel (i := 0) (pt_one (.name n0) (s1.ne (by decide)) (s1.ne (by decide)) (s1.ne (by decide))) (by decide) s1 (pt_one (.num d2) (noS_end (by decide)) (noS_end (by decide)) (noS_end (by decide)))
  exact .ok (lev_un (by decide) (.atom (fun x _ => n0.noS) a) (noj_end (by decide)))
theorem nm_x : nmB ⟨#[120]⟩ = true := (fy_lx.goodw (by decide)) 0 _ ⟨_, rfl, rfl, rfl⟩
theorem fy_chk : chk nmB fyF = 0 := by
  have hx := nm_x
  simp [chk, meterF, meterFL, meterTL, meterT, St.node, wellF, wellT, wF, wT, hx]
theorem fz_bad : Fin6 [wx, weq 2, weq 4, ⟨1, emp, 1, 6⟩] (.bad 71 2) := by
  have n0 : IsN [wx, weq 2, weq 4, ⟨1, emp, 1, 6⟩] 0 ⟨#[120]⟩ := ⟨_, rfl, rfl, rfl⟩
  have s1 : IsS [wx, weq 2, weq 4, ⟨1, emp, 1, 6⟩] 1 ⟨#[61]⟩ := ⟨_, rfl, rfl, rfl⟩
  have s2 : IsS [wx, weq 2, weq 4, ⟨1, emp, 1, 6⟩] 2 ⟨#[61]⟩ := ⟨_, rfl, rfl, rfl⟩
  have a : PA [wx, weq 2, weq 4, ⟨1, emp, 1, 6⟩] 0 (.bad 71 2) := .bad2 (pt_one (.name n0) (s1.ne (by decide)) (s1.ne (by decide)) (s1.ne (by decide))) (rels_in 4 (by decide)) s1 (.sumBad (.prodBad (.none (s2.ne (by decide)) (s2.ne (by decide)) (fun x => s2.nn) (fun n => s2.nd))))
  exact .bad (.levBad (by decide) (.levBad (by decide) (.levBad (by decide) (.levBad (by decide) (.un (.atomBad (fun x _ => n0.noS) a))))))
theorem fy_an : An fyt (some fyF) 0 0 0 := .ok (by decide) fy_lx fy_whole fy_chk
theorem fz_an : An fzt none 71 4 4 := by
  have := An.bad (s := fzt) (by decide) fz_lx fz_bad
  have h1 : pcB fzt [wx, weq 2, weq 4, ⟨1, emp, 1, 6⟩] 2 = 4 := rfl
  have h2 : pcC fzt [wx, weq 2, weq 4, ⟨1, emp, 1, 6⟩] 2 = 4 := by show cnt (fzt.extract 0 4) = 4; decide +kernel
  rw [h1, h2] at this
  exact this
theorem fy_at (w : World) (hS : Sg w) : Calls Tryd.prog 9 #[.string fyt] w fun e w' => ∃ g of ct a2 c2, e = .returned (.tuple #[.agg #[.int .i64 9, .string emp, .int .i64 0, .slice (some ⟨g, of, none⟩) 2 ct, .slice a2 0 c2], fau 0 0 0]) ∧ 2 ≤ ct ∧ ct ≤ 9223372036854775807 ∧ g < w'.heap.size ∧ w'.cell? ⟨g, of + 2, none⟩ = some (.string ⟨#[120]⟩) ∧ w'.cell? ⟨g, of + 5, none⟩ = some (.int .i64 1) ∧ Below w.heap.size w w' := by
  refine (formula_any fy_an w hS (by decide)).mono ?_
  rintro e w' ⟨v, rfl, ⟨op, xs, m, bo, n1, c1, lo, ln, lc, rfl, _, hs⟩, hB⟩
  have h := hs _ rfl
  rw [RdFn] at h
  obtain ⟨h0, h1, h2, h3, ⟨ao, cap, h4, h5, h6, h7⟩, a2, c2, h8, _, _, _⟩ := h
  rw [RdTnL, RdTnL] at h7
  obtain ⟨⟨g, of, d0, d1, d2, d3, e1, _, hg, _, _, k2, _, hr⟩, ⟨g', of', e0, e1', e2, e3, e1'', _, hg', _, j1, _, _, hr'⟩, _⟩ := h7
  rw [RdTn] at hr hr'
  obtain ⟨_, _, rfl, _⟩ := hr
  obtain ⟨_, rfl, _⟩ := hr'
  rw [e1] at e1''
  cases e1''
  cases h0; cases h1; cases h2
  rw [h4, h8, e1]
  exact ⟨g, of, cap, a2, c2, rfl, h5, h6, hg, by simpa using k2, by simpa using j1, hB⟩
theorem fz_at (w : World) (hS : Sg w) : Calls Tryd.prog 9 #[.string fzt] w fun e w' => e = .returned (.tuple #[nilF, fau 71 4 4]) ∧ Below w.heap.size w w' := by
  refine (formula_any fz_an w hS (by decide)).mono ?_
  rintro e w' ⟨v, rfl, ⟨op, xs, m, bo, n1, c1, lo, ln, lc, _, hn, _⟩, hB⟩
  rw [hn rfl]
  exact ⟨rfl, hB⟩
set_option maxRecDepth 100000 in
set_option maxHeartbeats 2000000 in
theorem lfixed_at (w : World) (hS : Sg w) : Calls Tryd.prog 6 #[] w fun e w' => e = .returned (.bool true) ∧ Below w.heap.size w w' := by
  go_enter Tryd.func6, Tryd.ntmps6
  go_wp2_with (fail)
  refine (fy_at _ hS).mono ?_
  rintro e w1 ⟨g, of, ct, a2, c2, rfl, hc1, hc2, hg, q2, q5, hB1⟩
  have hX1 := (rb_new w1 #[.int .i64 9, .string emp, .int .i64 0, .slice (some ⟨g, of, none⟩) 2 ct, .slice a2 0 c2] 27).keep (bal _ (.cells #[.int .i64 0, .int .i64 0, .int .i64 0] 36))
  have hX2 : Rb ((w1.alloc (.cells #[.int .i64 9, .string emp, .int .i64 0, .slice (some ⟨g, of, none⟩) 2 ct, .slice a2 0 c2] 27)).alloc (.cells #[.int .i64 0, .int .i64 0, .int .i64 0] 36)) (w1.heap.size + 1) #[.int .i64 0, .int .i64 0, .int .i64 0] 36 := by
    have := rb_new (w1.alloc (.cells #[.int .i64 9, .string emp, .int .i64 0, .slice (some ⟨g, of, none⟩) 2 ct, .slice a2 0 c2] 27)) #[.int .i64 0, .int .i64 0, .int .i64 0] 36
    rwa [World.size_alloc] at this
  have hS2 := ((hS.below hB1).alloc (.cells #[.int .i64 9, .string emp, .int .i64 0, .slice (some ⟨g, of, none⟩) 2 ct, .slice a2 0 c2] 27)).alloc (.cells #[.int .i64 0, .int .i64 0, .int .i64 0] 36)
  go_wp2_with (fail)
  refine (fz_at _ hS2).mono ?_
  rintro e w3 ⟨rfl, hB3⟩
  have hs3 := hB3.size
  rw [World.size_alloc, World.size_alloc] at hs3
  have hY1 := ((hX1.keep hB3).keep (bal w3 (.cells zF 27))).keep (bal _ (.cells #[.int .i64 71, .int .i64 4, .int .i64 4] 36))
  have hY2 := ((hX2.keep hB3).keep (bal w3 (.cells zF 27))).keep (bal _ (.cells #[.int .i64 71, .int .i64 4, .int .i64 4] 36))
  have hBx : Below w1.heap.size w1 ((w3.alloc (.cells zF 27)).alloc (.cells #[.int .i64 71, .int .i64 4, .int .i64 4] 36)) := bta (bta (bt2 (bta (bal w1 _) _) hB3) _) _
  have p2 := (hBx.cell (p := ⟨g, of + 2, none⟩) hg).trans q2
  have p5 := (hBx.cell (p := ⟨g, of + 5, none⟩) hg).trans q5
  obtain ⟨a0, -⟩ := txcell hY1 0 _ rfl
  obtain ⟨a3, -⟩ := txcell hY1 3 _ rfl
  obtain ⟨b0, -⟩ := txcell hY2 0 _ rfl
  obtain ⟨b1, -⟩ := txcell hY2 1 _ rfl
  obtain ⟨b2, -⟩ := txcell hY2 2 _ rfl
  go_wp2
  go_ret
  exact ⟨rfl, bta (bta (bt2 (bta (bta hB1 _) _) hB3) _) _⟩
end Go.Proofs.YtabfhdmcljdjhaaDoor.Gl
