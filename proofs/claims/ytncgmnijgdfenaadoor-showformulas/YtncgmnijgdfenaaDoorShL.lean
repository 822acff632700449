/- The writer's term. -/
import Derived.Test.YtncgmnijgdfenaaDoorShK
namespace Go.Proofs.YtncgmnijgdfenaaDoor.Gl
open Go Go.RowKit
set_option linter.unusedVariables false
set_option linter.unusedSimpArgs false

theorem two_words {s1 s2 : Nat} {o : Int} (t u : Tm) (h1 : s1 = wkT o 0) (h2 : s2 = wkT o 1) (ho : o = 3 ∨ o = 4 ∨ o = 5) : brL (decide (¬ s1 ≤ strT t.op)) (tbs (shT t)) ++ (32 :: (tbs (tsg o) ++ (32 :: brL (decide (¬ s2 ≤ strT u.op)) (tbs (shT u))))) = hlT o 0 t ++ (32 :: (tbs (tsg o) ++ (32 :: hlT o 1 u))) := by
  subst h1 h2
  unfold hlT
  rw [need_wk (o := t.op) (v := o) (pl := 0) (.inr ⟨ho, .inl rfl⟩), need_wk (o := u.op) (v := o) (pl := 1) (.inr ⟨ho, .inr rfl⟩)]
set_option maxRecDepth 100000 in
set_option maxHeartbeats 2000000 in
theorem term_at {W : World} {b : Nat} (hb : W.heap.size ≤ b) (hP : Pw W) : ∀ t : Tm, t.all (wellT nmB) = true → t.all nT = true → ∀ c0 c1 c2 c3, RdT W t c0 c1 c2 c3 → ∀ w l, Below W.heap.size W w → Bw w b l → l.length + (tbs (shT t)).length ≤ 140737488355328 → Calls Tryd.prog 19 #[.pointer (some ⟨b, 0, none⟩), .agg #[c0, c1, c2, c3]] w (WrA b l (tbs (shT t)) w) := by
  refine Tm.ind (fun o n x a ih hw hn c0 c1 c2 c3 hr w l hW h hlen => ?_)
  have hbw := h.lt
  have hok := all_own hn
  rw [RdT] at hr
  obtain ⟨rfl, rfl, rfl, hz, ao, cap, rfl, hlc, hcz, hL⟩ := hr
  have hWs := hW.size
  rcases well_tm (all_own hw) with ⟨rfl, h0, rfl, rfl⟩ | ⟨rfl, rfl, hx, rfl⟩ | ⟨rfl, rfl, rfl, t, rfl⟩ | ⟨ho, rfl, rfl, t, u, rfl⟩
  · have hB1 := h.alloc (.cells #[.int .i64 0, .int .i64 n, .string emp, .slice ao 0 cap] 36)
    have hW1 := bel_alloc hW (by omega) (.cells #[.int .i64 0, .int .i64 n, .string emp, .slice ao 0 cap] 36)
    have hK1 := mkHid ((Kw.refl b w).alloc (by omega) (.cells #[.int .i64 0, .int .i64 n, .string emp, .slice ao 0 cap] 36))
    have DG := mkHid (digits_show n (w.alloc (.cells #[.int .i64 0, .int .i64 n, .string emp, .slice ao 0 cap] 36)) h0 (of_decide_eq_true hok) (hP.below hW1 hP.lt))
    have HB1 := mkHid hB1
    rw [tt_num] at hlen ⊢
    have HL := mkHid hlen
    clear hW1 hB1 h hW hlen hok hn hw ih hL
    go_enter Tryd.func19, Tryd.ntmps19
    go_wp2_with (fail)
    refine DG.out.mono ?_
    rintro e w3 ⟨rfl, hB3⟩
    have hb3 := hB3.size
    rw [World.size_alloc] at hb3
    have P1 := mkHid (put1 (HB1.out.below hB3) (dec n.toNat) (by have := HL.out; rw [tb_len] at this; omega) rfl)
    have hk3 := mkHid (hK1.out.trans (Kw.of hB3 (by rw [World.size_alloc]; omega)))
    clear hB3
    go_wp2_with (fail)
    refine P1.out.mono ?_
    rintro e w4 ⟨rfl, hb4, hk4⟩
    have hbz := mkHid hb4
    have hkz := mkHid (hk3.out.trans hk4)
    clear hb4 hk4
    go_wp2
    go_end0
    exact ⟨rfl, hbz.out, hkz.out⟩
  · have hB1 := h.alloc (.cells #[.int .i64 1, .int .i64 0, .string x, .slice ao 0 cap] 36)
    have hK1 := mkHid ((Kw.refl b w).alloc (by omega) (.cells #[.int .i64 1, .int .i64 0, .string x, .slice ao 0 cap] 36))
    rw [tt_nam] at hlen ⊢
    have P1 := mkHid (put1 hB1 x (by rw [tb_len] at hlen; omega) (g := w.heap.size + 1) (by simp))
    clear hB1 h hW hlen hok hn hw ih hL
    go_enter Tryd.func19, Tryd.ntmps19
    go_wp2_with (fail)
    refine P1.out.mono ?_
    rintro e w4 ⟨rfl, hb4, hk4⟩
    have hbz := mkHid hb4
    have hkz := mkHid (hK1.out.trans hk4)
    clear hb4 hk4
    go_wp2
    go_end0
    exact ⟨rfl, hbz.out, hkz.out⟩
  · obtain ⟨g, of, d0, d1, d2, d3, rfl, hd, hrt⟩ := rdtl_one hL
    have e0 := hrt.op
    subst e0
    have hbr : brL (decide (¬ 2 ≤ strT t.op)) (tbs (shT t)) = hlT 2 0 t := by
      unfold hlT
      rw [need_wk (o := t.op) (v := 2) (pl := 0) (.inl ⟨rfl, rfl⟩)]
      rfl
    have hif : (if 2 ≤ strT t.op then tbs (shT t) else 91 :: (tbs (shT t) ++ [93])) = hlT 2 0 t := by
      rw [← hbr]
      unfold brL
      by_cases hs : 2 ≤ strT t.op <;> simp [hs]
    rw [tt_neg] at hlen ⊢
    rw [List.length_cons] at hlen
    have HT := mkHid (fun w l hW h hl => part_at hb t.op d1 d2 d3 (tbs (shT t)) (fun w l hW h hl => ih t (by simp) (all_one hw).2 (all_one hn).2 _ _ _ _ hrt w l hW h hl) 2 w l hW h hl)
    rw [hif] at HT
    have hB1 := h.alloc (.cells #[.int .i64 2, .int .i64 0, .string emp, .slice (some ⟨g, of, none⟩) 1 cap] 36)
    have hK1 := mkHid ((Kw.refl b w).alloc (by omega) (.cells #[.int .i64 2, .int .i64 0, .string emp, .slice (some ⟨g, of, none⟩) 1 cap] 36))
    have P1 := mkHid (put1 hB1 kMinus (by show l.length + 1 ≤ 140737488355328; omega) (g := w.heap.size + 1) (by simp))
    have HW := mkHid (bel_alloc hW (by omega) (.cells #[.int .i64 2, .int .i64 0, .string emp, .slice (some ⟨g, of, none⟩) 1 cap] 36))
    have HD := mkHid hd
    have HL := mkHid hlen
    clear hB1 h hW hlen hok hn hw ih hL hd hrt hbr hif
    go_enter Tryd.func19, Tryd.ntmps19
    go_wp2_with (fail)
    refine P1.out.mono ?_
    rintro e w4 ⟨rfl, hb4, hk4⟩
    have x3 := wbox_keep hbw hk4 (by decide) 3
    have hW4 := mkHid (HW.out.trans (hk4.low hb))
    obtain ⟨y0, y1, y2, y3⟩ := HD.out.to hW4.out
    have HT' := mkHid (HT.out w4 _ hW4.out hb4 (by have := HL.out; rw [List.length_append]; show l.length + 1 + _ ≤ 140737488355328; omega))
    have hk4' := mkHid hk4
    clear hb4 hk4
    go_wp2_with (fail)
    refine HT'.out.mono ?_
    rintro e w5 ⟨rfl, hb5, hk5⟩
    have hbz := mkHid hb5
    have hkz := mkHid ((hK1.out.trans hk4'.out).trans hk5)
    clear hb5 hk5
    go_wp2
    go_end0
    refine ⟨rfl, ?_, hkz.out⟩
    have := hbz.out
    rw [List.append_assoc] at this
    exact this
  · obtain ⟨g, of, d0, d1, d2, d3, e0, e1, e2, e3, rfl, ⟨hd, hrt⟩, hd', hru⟩ := rdtl_two hL
    have z0 := hrt.op
    have z1 := hru.op
    subst z0 z1
    rw [tt_two ho] at hlen ⊢
    have CB := mkHid (fun s1 s2 k1 k2 w l hW h hl => combined_at (b := b) hb g of cap t.op u.op d1 d2 d3 e1 e2 e3 (tbs (shT t)) (tbs (shT u)) hd hd' (fun w l hW h hl => ih t (by simp) (all_two hw).2.1 (all_two hn).2.1 _ _ _ _ hrt w l hW h hl) (fun w l hW h hl => ih u (by simp) (all_two hw).2.2 (all_two hn).2.2 _ _ _ _ hru w l hW h hl) (tsg o) s1 s2 (decide (¬ s1 ≤ strT t.op)) (decide (¬ s2 ≤ strT u.op)) w l hW h (by rw [two_words t u k1 k2 ho]; exact hl) hlc hcz rfl rfl)
    have TW := mkHid (fun s1 s2 k1 k2 => two_words (s1 := s1) (s2 := s2) (o := o) t u k1 k2 ho)
    have hB1 := mkHid (h.alloc (.cells #[.int .i64 o, .int .i64 0, .string emp, .slice (some ⟨g, of, none⟩) 2 cap] 36))
    have hK1 := mkHid ((Kw.refl b w).alloc (by omega) (.cells #[.int .i64 o, .int .i64 0, .string emp, .slice (some ⟨g, of, none⟩) 2 cap] 36))
    have HW := mkHid (bel_alloc hW (by omega) (.cells #[.int .i64 o, .int .i64 0, .string emp, .slice (some ⟨g, of, none⟩) 2 cap] 36))
    have HL := mkHid hlen
    clear h hW hlen hok hn hw ih hL hd hrt hd' hru
    rcases ho with rfl | rfl | rfl
    · have C1 := mkHid (CB.out 0 1 rfl rfl _ l HW.out hB1.out HL.out)
      rw [TW.out 0 1 rfl rfl] at C1
      clear CB TW HL
      go_enter Tryd.func19, Tryd.ntmps19
      go_wp2_with (fail)
      refine C1.out.mono ?_
      rintro e w5 ⟨rfl, hb5, hk5⟩
      have hbz := mkHid hb5
      have hkz := mkHid (hK1.out.trans hk5)
      clear hb5 hk5
      go_wp2
      go_end0
      exact ⟨rfl, hbz.out, hkz.out⟩
    · have C1 := mkHid (CB.out 0 1 rfl rfl _ l HW.out hB1.out HL.out)
      rw [TW.out 0 1 rfl rfl] at C1
      clear CB TW HL
      go_enter Tryd.func19, Tryd.ntmps19
      go_wp2_with (fail)
      refine C1.out.mono ?_
      rintro e w5 ⟨rfl, hb5, hk5⟩
      have hbz := mkHid hb5
      have hkz := mkHid (hK1.out.trans hk5)
      clear hb5 hk5
      go_wp2
      go_end0
      exact ⟨rfl, hbz.out, hkz.out⟩
    · have C1 := mkHid (CB.out 1 2 rfl rfl _ l HW.out hB1.out HL.out)
      rw [TW.out 1 2 rfl rfl] at C1
      clear CB TW HL
      go_enter Tryd.func19, Tryd.ntmps19
      go_wp2_with (fail)
      refine C1.out.mono ?_
      rintro e w5 ⟨rfl, hb5, hk5⟩
      have hbz := mkHid hb5
      have hkz := mkHid (hK1.out.trans hk5)
      clear hb5 hk5
      go_wp2
      go_end0
      exact ⟨rfl, hbz.out, hkz.out⟩
end Go.Proofs.YtncgmnijgdfenaaDoor.Gl
