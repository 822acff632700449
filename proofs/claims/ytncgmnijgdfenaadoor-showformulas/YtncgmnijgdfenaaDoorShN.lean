/- The writer's formula. -/
import Derived.Test.YtncgmnijgdfenaaDoorShM
namespace Go.Proofs.YtncgmnijgdfenaaDoor.Gl
open Go Go.RowKit
set_option linter.unusedVariables false
set_option linter.unusedSimpArgs false

set_option maxRecDepth 100000 in
set_option maxHeartbeats 4000000 in
theorem formula_show {W : World} {b : Nat} (hb : W.heap.size ≤ b) (hP : Pw W) : ∀ f : Fm, f.all (wellT nmB) (wellF nmB) = true → f.all nT nF = true → ∀ c0 c1 c2 c3 c4, RdF W f c0 c1 c2 c3 c4 → FC W b (tbs (shF f)) c0 c1 c2 c3 c4 := by
  refine Fm.ind (fun o x m t a ih hw hn c0 c1 c2 c3 c4 hr w l hW h hlen => ?_)
  have hbw := h.lt
  have hWs := hW.size
  obtain ⟨hnx, hnt, hna⟩ := fll_own hn
  obtain ⟨hwx, hwt, hwa⟩ := fll_own hw
  rw [RdF] at hr
  obtain ⟨rfl, rfl, rfl, hz, ⟨bo, bcap, rfl, hblc, hbcz, hT⟩, ao, cap, rfl, hlc, hcz, hA⟩ := hr
  have hshp := well_fm hwx
  clear hwx hz
  cases hshp with
  | leaf ho =>
    rcases ho with rfl | rfl
    · rw [tf_tru] at hlen ⊢
      have hB1 := mkHid (h.alloc (.cells #[.int .i64 0, .string emp, .int .i64 0, .slice bo 0 bcap, .slice ao 0 cap] 26))
      have hK1 := mkHid ((Kw.refl b w).alloc (by omega) (.cells #[.int .i64 0, .string emp, .int .i64 0, .slice bo 0 bcap, .slice ao 0 cap] 26))
      have HW := mkHid (bel_alloc hW (by omega) (.cells #[.int .i64 0, .string emp, .int .i64 0, .slice bo 0 bcap, .slice ao 0 cap] 26))
      have HL := mkHid hlen
      have P1 := mkHid (put1 hB1.out kTrue (by have := HL.out; rw [tb_len] at this; exact this) (g := w.heap.size + 1) (by simp))
      clear h hW hlen hw hn ih hT hA
      go_enter Tryd.func14, Tryd.ntmps14
      go_wp2_with (fail)
      refine P1.out.mono ?_
      rintro e w4 ⟨rfl, hb4, hk4⟩
      have hbz := mkHid hb4
      have hkz := mkHid (hK1.out.trans hk4)
      clear hb4 hk4
      go_wp2
      go_end0
      exact ⟨rfl, hbz.out, hkz.out⟩
    · rw [tf_fls] at hlen ⊢
      have hB1 := mkHid (h.alloc (.cells #[.int .i64 1, .string emp, .int .i64 0, .slice bo 0 bcap, .slice ao 0 cap] 26))
      have hK1 := mkHid ((Kw.refl b w).alloc (by omega) (.cells #[.int .i64 1, .string emp, .int .i64 0, .slice bo 0 bcap, .slice ao 0 cap] 26))
      have HW := mkHid (bel_alloc hW (by omega) (.cells #[.int .i64 1, .string emp, .int .i64 0, .slice bo 0 bcap, .slice ao 0 cap] 26))
      have HL := mkHid hlen
      have P1 := mkHid (put1 hB1.out kFalse (by have := HL.out; rw [tb_len] at this; exact this) (g := w.heap.size + 1) (by simp))
      clear h hW hlen hw hn ih hT hA
      go_enter Tryd.func14, Tryd.ntmps14
      go_wp2_with (fail)
      refine P1.out.mono ?_
      rintro e w4 ⟨rfl, hb4, hk4⟩
      have hbz := mkHid hb4
      have hkz := mkHid (hK1.out.trans hk4)
      clear hb4 hk4
      go_wp2
      go_end0
      exact ⟨rfl, hbz.out, hkz.out⟩
  | @not f =>
    obtain ⟨g, of, d0, d1, d2, d3, d4, rfl, hd, hrt⟩ := rdfl_one hA
    rw [tf_not] at hlen ⊢
    have HT := mkHid (ih f (by simp) (fl_one hwa) (fl_one hna) _ _ _ _ _ hrt)
    have hB1 := mkHid (h.alloc (.cells #[.int .i64 2, .string emp, .int .i64 0, .slice bo 0 bcap, .slice (some ⟨g, of, none⟩) 1 cap] 26))
    have hK1 := mkHid ((Kw.refl b w).alloc (by omega) (.cells #[.int .i64 2, .string emp, .int .i64 0, .slice bo 0 bcap, .slice (some ⟨g, of, none⟩) 1 cap] 26))
    have HW := mkHid (bel_alloc hW (by omega) (.cells #[.int .i64 2, .string emp, .int .i64 0, .slice bo 0 bcap, .slice (some ⟨g, of, none⟩) 1 cap] 26))
    have HL := mkHid hlen
    have hl2 : l.length + (4 + (tbs (shF f)).length) ≤ 140737488355328 := by
      have := HL.out
      have e1 : (tbs kNot).length = 3 := rfl
      simp only [List.length_append, List.length_cons] at this
      rw [e1] at this
      omega
    have P1 := mkHid (put1 hB1.out ⟨#[110, 111, 116, 32]⟩ (by show l.length + 4 ≤ 140737488355328; omega) (g := w.heap.size + 1) (by simp))
    have HD := mkHid hd
    have HL2 := mkHid hl2
    clear h hW hlen hw hn ih hT hA hd hrt hl2 hnx
    go_enter Tryd.func14, Tryd.ntmps14
    go_wp2_with (fail)
    refine P1.out.mono ?_
    rintro e w4 ⟨rfl, hb4, hk4⟩
    have x4 := wbox_keep hbw hk4 (by decide) 4
    have hW4 := mkHid (HW.out.trans (hk4.low hb))
    obtain ⟨y0, y1, y2, y3, y4⟩ := HD.out.to hW4.out
    have HT' := mkHid (HT.out w4 _ hW4.out hb4 (by have := HL2.out; simp only [List.length_append]; show l.length + 4 + _ ≤ 140737488355328; omega))
    have hk4' := mkHid hk4
    clear hb4 hk4
    go_wp2_with (fail)
    refine HT'.out.mono ?_
    rintro e w5 ⟨rfl, hb5, hk5⟩
    have hbz := mkHid hb5
    have hkz := mkHid ((hK1.out.trans hk4'.out).trans hk5)
    clear hb5 hk5
    go_wp2
    go_end0
    refine ⟨rfl, ?_, hkz.out⟩
    have := hbz.out
    have e1 : tbs ⟨#[110, 111, 116, 32]⟩ = tbs kNot ++ [32] := rfl
    rw [e1] at this
    simpa [List.append_assoc] using this
  | @pair o f f' ho1 ho2 =>
    obtain ⟨g, of, d0, d1, d2, d3, d4, e0, e1, e2, e3, e4, rfl, ⟨hd, hrt⟩, hd', hru⟩ := rdfl_two hA
    rw [tf_pair ho1 ho2] at hlen ⊢
    have CB := mkHid (fun k w l hW h hl => connected_at (b := b) hb g of cap d0 d1 d2 d3 d4 e0 e1 e2 e3 e4 (tbs (shF f)) (tbs (shF f')) hd hd' (ih f (by simp) (fl_two hwa).1 (fl_two hna).1 _ _ _ _ _ hrt) (ih f' (by simp) (fl_two hwa).2 (fl_two hna).2 _ _ _ _ _ hru) k w l hW h hl hlc hcz)
    have ho : o = 3 ∨ o = 4 ∨ o = 5 ∨ o = 6 := by omega
    clear ho1 ho2 hnx
    rcases ho with rfl | rfl | rfl | rfl
    · have hB1 := mkHid (h.alloc (.cells #[.int .i64 3, .string emp, .int .i64 0, .slice bo 0 bcap, .slice (some ⟨g, of, none⟩) 2 cap] 26))
      have hK1 := mkHid ((Kw.refl b w).alloc (by omega) (.cells #[.int .i64 3, .string emp, .int .i64 0, .slice bo 0 bcap, .slice (some ⟨g, of, none⟩) 2 cap] 26))
      have HW := mkHid (bel_alloc hW (by omega) (.cells #[.int .i64 3, .string emp, .int .i64 0, .slice bo 0 bcap, .slice (some ⟨g, of, none⟩) 2 cap] 26))
      have HL := mkHid hlen
      have C1 := mkHid (CB.out kAnd _ l HW.out hB1.out (by have := HL.out; simp only [List.length_append, List.length_cons, tb_len] at this ⊢; have e1 : (jsg 3).size = kAnd.size := rfl; rw [e1] at this; simp only [List.length_nil] at this; omega))
      clear CB h hW hlen hw hn ih hT hA hd hrt hd' hru
      go_enter Tryd.func14, Tryd.ntmps14
      go_wp2_with (fail)
      refine C1.out.mono ?_
      rintro e w5 ⟨rfl, hb5, hk5⟩
      have hbz := mkHid hb5
      have hkz := mkHid (hK1.out.trans hk5)
      clear hb5 hk5
      go_wp2
      go_end0
      exact ⟨rfl, hbz.out, hkz.out⟩
    · have hB1 := mkHid (h.alloc (.cells #[.int .i64 4, .string emp, .int .i64 0, .slice bo 0 bcap, .slice (some ⟨g, of, none⟩) 2 cap] 26))
      have hK1 := mkHid ((Kw.refl b w).alloc (by omega) (.cells #[.int .i64 4, .string emp, .int .i64 0, .slice bo 0 bcap, .slice (some ⟨g, of, none⟩) 2 cap] 26))
      have HW := mkHid (bel_alloc hW (by omega) (.cells #[.int .i64 4, .string emp, .int .i64 0, .slice bo 0 bcap, .slice (some ⟨g, of, none⟩) 2 cap] 26))
      have HL := mkHid hlen
      have C1 := mkHid (CB.out kOr _ l HW.out hB1.out (by have := HL.out; simp only [List.length_append, List.length_cons, tb_len] at this ⊢; have e1 : (jsg 4).size = kOr.size := rfl; rw [e1] at this; simp only [List.length_nil] at this; omega))
      clear CB h hW hlen hw hn ih hT hA hd hrt hd' hru
      go_enter Tryd.func14, Tryd.ntmps14
      go_wp2_with (fail)
      refine C1.out.mono ?_
      rintro e w5 ⟨rfl, hb5, hk5⟩
      have hbz := mkHid hb5
      have hkz := mkHid (hK1.out.trans hk5)
      clear hb5 hk5
      go_wp2
      go_end0
      exact ⟨rfl, hbz.out, hkz.out⟩
    · have hB1 := mkHid (h.alloc (.cells #[.int .i64 5, .string emp, .int .i64 0, .slice bo 0 bcap, .slice (some ⟨g, of, none⟩) 2 cap] 26))
      have hK1 := mkHid ((Kw.refl b w).alloc (by omega) (.cells #[.int .i64 5, .string emp, .int .i64 0, .slice bo 0 bcap, .slice (some ⟨g, of, none⟩) 2 cap] 26))
      have HW := mkHid (bel_alloc hW (by omega) (.cells #[.int .i64 5, .string emp, .int .i64 0, .slice bo 0 bcap, .slice (some ⟨g, of, none⟩) 2 cap] 26))
      have HL := mkHid hlen
      have C1 := mkHid (CB.out kTo _ l HW.out hB1.out (by have := HL.out; simp only [List.length_append, List.length_cons, tb_len] at this ⊢; have e1 : (jsg 5).size = kTo.size := rfl; rw [e1] at this; simp only [List.length_nil] at this; omega))
      clear CB h hW hlen hw hn ih hT hA hd hrt hd' hru
      go_enter Tryd.func14, Tryd.ntmps14
      go_wp2_with (fail)
      refine C1.out.mono ?_
      rintro e w5 ⟨rfl, hb5, hk5⟩
      have hbz := mkHid hb5
      have hkz := mkHid (hK1.out.trans hk5)
      clear hb5 hk5
      go_wp2
      go_end0
      exact ⟨rfl, hbz.out, hkz.out⟩
    · have hB1 := mkHid (h.alloc (.cells #[.int .i64 6, .string emp, .int .i64 0, .slice bo 0 bcap, .slice (some ⟨g, of, none⟩) 2 cap] 26))
      have hK1 := mkHid ((Kw.refl b w).alloc (by omega) (.cells #[.int .i64 6, .string emp, .int .i64 0, .slice bo 0 bcap, .slice (some ⟨g, of, none⟩) 2 cap] 26))
      have HW := mkHid (bel_alloc hW (by omega) (.cells #[.int .i64 6, .string emp, .int .i64 0, .slice bo 0 bcap, .slice (some ⟨g, of, none⟩) 2 cap] 26))
      have HL := mkHid hlen
      have C1 := mkHid (CB.out kIff _ l HW.out hB1.out (by have := HL.out; simp only [List.length_append, List.length_cons, tb_len] at this ⊢; have e1 : (jsg 6).size = kIff.size := rfl; rw [e1] at this; simp only [List.length_nil] at this; omega))
      clear CB h hW hlen hw hn ih hT hA hd hrt hd' hru
      go_enter Tryd.func14, Tryd.ntmps14
      go_wp2_with (fail)
      refine C1.out.mono ?_
      rintro e w5 ⟨rfl, hb5, hk5⟩
      have hbz := mkHid hb5
      have hkz := mkHid (hK1.out.trans hk5)
      clear hb5 hk5
      go_wp2
      go_end0
      exact ⟨rfl, hbz.out, hkz.out⟩
  | @qu o x f ho hx =>
    obtain ⟨g, of, d0, d1, d2, d3, d4, rfl, hd, hrt⟩ := rdfl_one hA
    rw [tf_qu ho] at hlen ⊢
    have HT := mkHid (ih f (by simp) (fl_one hwa) (fl_one hna) _ _ _ _ _ hrt)
    rcases ho with rfl | rfl
    · have hB1 := mkHid (h.alloc (.cells #[.int .i64 7, .string x, .int .i64 0, .slice bo 0 bcap, .slice (some ⟨g, of, none⟩) 1 cap] 26))
      have hK1 := mkHid ((Kw.refl b w).alloc (by omega) (.cells #[.int .i64 7, .string x, .int .i64 0, .slice bo 0 bcap, .slice (some ⟨g, of, none⟩) 1 cap] 26))
      have HW := mkHid (bel_alloc hW (by omega) (.cells #[.int .i64 7, .string x, .int .i64 0, .slice bo 0 bcap, .slice (some ⟨g, of, none⟩) 1 cap] 26))
      have HL := mkHid hlen
      have hl2 : l.length + (3 + (x.size + 2) + (tbs (shF f)).length) ≤ 140737488355328 := by
        have := HL.out
        have e1 : (tbs (qsg 7)).length = 2 := rfl
        simp only [List.length_append, List.length_cons] at this
        rw [e1, tb_len x] at this
        omega
      have P1 := mkHid (put3 hB1.out ⟨#[101, 120, 32]⟩ x ⟨#[46, 32]⟩ (by show l.length + (3 + (x.size + 2)) ≤ 140737488355328; omega) (g := w.heap.size + 1) (by simp))
      have HD := mkHid hd
      have HL2 := mkHid hl2
      clear h hW hlen hw hn ih hT hA hd hrt hl2 hnx
      go_enter Tryd.func14, Tryd.ntmps14
      go_wp2_with (fail)
      refine P1.out.mono ?_
      rintro e w4 ⟨rfl, hb4, hk4⟩
      have x4 := wbox_keep hbw hk4 (by decide) 4
      have hW4 := mkHid (HW.out.trans (hk4.low hb))
      obtain ⟨y0, y1, y2, y3, y4⟩ := HD.out.to hW4.out
      have HT' := mkHid (HT.out w4 _ hW4.out hb4 (by have := HL2.out; simp only [List.length_append]; show l.length + (3 + (_ + 2)) + _ ≤ 140737488355328; rw [tb_len x]; omega))
      have hk4' := mkHid hk4
      clear hb4 hk4
      go_wp2_with (fail)
      refine HT'.out.mono ?_
      rintro e w5 ⟨rfl, hb5, hk5⟩
      have hbz := mkHid hb5
      have hkz := mkHid ((hK1.out.trans hk4'.out).trans hk5)
      clear hb5 hk5
      go_wp2
      go_end0
      refine ⟨rfl, ?_, hkz.out⟩
      have := hbz.out
      have e1 : tbs ⟨#[101, 120, 32]⟩ = tbs (qsg 7) ++ [32] := rfl
      have e2 : tbs ⟨#[46, 32]⟩ = [46, 32] := rfl
      rw [e1, e2] at this
      simpa [List.append_assoc] using this
    · have hB1 := mkHid (h.alloc (.cells #[.int .i64 8, .string x, .int .i64 0, .slice bo 0 bcap, .slice (some ⟨g, of, none⟩) 1 cap] 26))
      have hK1 := mkHid ((Kw.refl b w).alloc (by omega) (.cells #[.int .i64 8, .string x, .int .i64 0, .slice bo 0 bcap, .slice (some ⟨g, of, none⟩) 1 cap] 26))
      have HW := mkHid (bel_alloc hW (by omega) (.cells #[.int .i64 8, .string x, .int .i64 0, .slice bo 0 bcap, .slice (some ⟨g, of, none⟩) 1 cap] 26))
      have HL := mkHid hlen
      have hl2 : l.length + (4 + (x.size + 2) + (tbs (shF f)).length) ≤ 140737488355328 := by
        have := HL.out
        have e1 : (tbs (qsg 8)).length = 3 := rfl
        simp only [List.length_append, List.length_cons] at this
        rw [e1, tb_len x] at this
        omega
      have P1 := mkHid (put3 hB1.out ⟨#[97, 108, 108, 32]⟩ x ⟨#[46, 32]⟩ (by show l.length + (4 + (x.size + 2)) ≤ 140737488355328; omega) (g := w.heap.size + 1) (by simp))
      have HD := mkHid hd
      have HL2 := mkHid hl2
      clear h hW hlen hw hn ih hT hA hd hrt hl2 hnx
      go_enter Tryd.func14, Tryd.ntmps14
      go_wp2_with (fail)
      refine P1.out.mono ?_
      rintro e w4 ⟨rfl, hb4, hk4⟩
      have x4 := wbox_keep hbw hk4 (by decide) 4
      have hW4 := mkHid (HW.out.trans (hk4.low hb))
      obtain ⟨y0, y1, y2, y3, y4⟩ := HD.out.to hW4.out
      have HT' := mkHid (HT.out w4 _ hW4.out hb4 (by have := HL2.out; simp only [List.length_append]; show l.length + (4 + (_ + 2)) + _ ≤ 140737488355328; rw [tb_len x]; omega))
      have hk4' := mkHid hk4
      clear hb4 hk4
      go_wp2_with (fail)
      refine HT'.out.mono ?_
      rintro e w5 ⟨rfl, hb5, hk5⟩
      have hbz := mkHid hb5
      have hkz := mkHid ((hK1.out.trans hk4'.out).trans hk5)
      clear hb5 hk5
      go_wp2
      go_end0
      refine ⟨rfl, ?_, hkz.out⟩
      have := hbz.out
      have e1 : tbs ⟨#[97, 108, 108, 32]⟩ = tbs (qsg 8) ++ [32] := rfl
      have e2 : tbs ⟨#[46, 32]⟩ = [46, 32] := rfl
      rw [e1, e2] at this
      simpa [List.append_assoc] using this
  | @rel o t u ho1 ho2 =>
    obtain ⟨g, of, d0, d1, d2, d3, e0, e1, e2, e3, rfl, ⟨hd, hrt⟩, hd', hru⟩ := rdtl_two hT
    rw [tf_rel ho1 ho2] at hlen ⊢
    have hB1 := mkHid (h.alloc (.cells #[.int .i64 o, .string emp, .int .i64 0, .slice (some ⟨g, of, none⟩) 2 bcap, .slice ao 0 cap] 26))
    have hK1 := mkHid ((Kw.refl b w).alloc (by omega) (.cells #[.int .i64 o, .string emp, .int .i64 0, .slice (some ⟨g, of, none⟩) 2 bcap, .slice ao 0 cap] 26))
    have HW := mkHid (bel_alloc hW (by omega) (.cells #[.int .i64 o, .string emp, .int .i64 0, .slice (some ⟨g, of, none⟩) 2 bcap, .slice ao 0 cap] 26))
    have HL := mkHid hlen
    have C1 := mkHid (atom_show hb hP o 0 emp g of bcap (.slice ao 0 cap) d0 d1 d2 d3 e0 e1 e2 e3 (tbs (shT t)) (tbs (shT u)) hd hd' (term_at hb hP t (tl_two hwt).1 (tl_two hnt).1 _ _ _ _ hrt) (term_at hb hP u (tl_two hwt).2 (tl_two hnt).2 _ _ _ _ hru) _ l HW.out hB1.out (by omega) (by omega) hblc hbcz (fun e => by omega) [] (by rw [if_neg (by omega)]) (by have := HL.out; simpa using this))
    have q0 : (o == 0) = false := by rw [beq_eq_false_iff_ne]; omega
    have q1 : (o == 1) = false := by rw [beq_eq_false_iff_ne]; omega
    have q2 : (o == 2) = false := by rw [beq_eq_false_iff_ne]; omega
    have q3 : (o == 3) = false := by rw [beq_eq_false_iff_ne]; omega
    have q4 : (o == 4) = false := by rw [beq_eq_false_iff_ne]; omega
    have q5 : (o == 5) = false := by rw [beq_eq_false_iff_ne]; omega
    have q6 : (o == 6) = false := by rw [beq_eq_false_iff_ne]; omega
    have q7 : (o == 7) = false := by rw [beq_eq_false_iff_ne]; omega
    have q8 : (o == 8) = false := by rw [beq_eq_false_iff_ne]; omega
    clear h hW hlen hw hn ih hT hA hd hrt hd' hru hnx
    go_enter Tryd.func14, Tryd.ntmps14
    go_wp2_with (fail)
    refine C1.out.mono ?_
    rintro e w5 ⟨rfl, hb5, hk5⟩
    have hbz := mkHid hb5
    have hkz := mkHid (hK1.out.trans hk5)
    clear hb5 hk5
    go_wp2
    go_end0
    refine ⟨rfl, ?_, hkz.out⟩
    have := hbz.out
    simpa using this
  | @cong m t u hm =>
    obtain ⟨g, of, d0, d1, d2, d3, e0, e1, e2, e3, rfl, ⟨hd, hrt⟩, hd', hru⟩ := rdtl_two hT
    rw [tf_cong] at hlen ⊢
    have hB1 := mkHid (h.alloc (.cells #[.int .i64 15, .string emp, .int .i64 m, .slice (some ⟨g, of, none⟩) 2 bcap, .slice ao 0 cap] 26))
    have hK1 := mkHid ((Kw.refl b w).alloc (by omega) (.cells #[.int .i64 15, .string emp, .int .i64 m, .slice (some ⟨g, of, none⟩) 2 bcap, .slice ao 0 cap] 26))
    have HW := mkHid (bel_alloc hW (by omega) (.cells #[.int .i64 15, .string emp, .int .i64 m, .slice (some ⟨g, of, none⟩) 2 bcap, .slice ao 0 cap] 26))
    have HL := mkHid hlen
    have C1 := mkHid (atom_show hb hP 15 m emp g of bcap (.slice ao 0 cap) d0 d1 d2 d3 e0 e1 e2 e3 (tbs (shT t)) (tbs (shT u)) hd hd' (term_at hb hP t (tl_two hwt).1 (tl_two hnt).1 _ _ _ _ hrt) (term_at hb hP u (tl_two hwt).2 (tl_two hnt).2 _ _ _ _ hru) _ l HW.out hB1.out (by omega) (by omega) hblc hbcz (fun _ => ⟨by omega, of_decide_eq_true hnx⟩) _ (if_pos rfl).symm (by have := HL.out; simpa using this))
    clear h hW hlen hw hn ih hT hA hd hrt hd' hru hnx
    go_enter Tryd.func14, Tryd.ntmps14
    go_wp2_with (fail)
    refine C1.out.mono ?_
    rintro e w5 ⟨rfl, hb5, hk5⟩
    have hbz := mkHid hb5
    have hkz := mkHid (hK1.out.trans hk5)
    clear hb5 hk5
    go_wp2
    go_end0
    refine ⟨rfl, ?_, hkz.out⟩
    have := hbz.out
    simpa using this
end Go.Proofs.YtncgmnijgdfenaaDoor.Gl
