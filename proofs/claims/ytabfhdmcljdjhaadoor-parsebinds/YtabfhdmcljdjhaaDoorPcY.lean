/- ParseBrackets. -/
import Derived.Test.YtabfhdmcljdjhaaDoorPcZ
namespace Go.Proofs.YtabfhdmcljdjhaaDoor.Gl
open Go.RowKit
set_option linter.unusedVariables false
set_option linter.unusedSimpArgs false

theorem is_nil {W : World} : ∀ (i : Nat) (F : Fm) (x : C5), ([] : List Fm)[i]? = some F → ([] : List C5)[i]? = some x → x.Is W F := fun i F x h _ => by simp at h
theorem is_cons {W : World} {F0 : Fm} {x0 : C5} {fs : List Fm} {xs : List C5} (h0 : x0.Is W F0) (h : ∀ (i : Nat) (F : Fm) (x : C5), fs[i]? = some F → xs[i]? = some x → x.Is W F) : ∀ (i : Nat) (F : Fm) (x : C5), (F0 :: fs)[i]? = some F → (x0 :: xs)[i]? = some x → x.Is W F := fun i F x hF hx => by
  cases i with
  | zero => simp at hF hx; subst hF; subst hx; exact h0
  | succ i => exact h i F x (by simpa using hF) (by simpa using hx)
theorem An.small {s : ByteArray} {f : Fm} {b k : Nat} (h : An s (some f) 0 b k) : ∃ a, s.size ≤ 4096 ∧ Lx s 0 a none ∧ Whole a f ∧ chk nmB f = 0 ∧ b = 0 ∧ k = 0 := by
  cases h with
  | ok hs hl hf hc => cases hf with | ok h => exact ⟨_, hs, hl, h, hc, rfl, rfl⟩
set_option maxRecDepth 100000 in
set_option maxHeartbeats 2000000 in
theorem brackets_no (s t : ByteArray) (w : World) (hS : Sg w) (h1 : s.size ≤ 9223372036854775807) (h2 : t.size ≤ 9223372036854775807) {o o' : Option Fm} {c b k c' b' k' : Nat} (hs : An s o c b k) (ht : An t o' c' b' k') (hn : c ≠ 0 ∨ c' ≠ 0) :
    Calls Tryd.prog 3 #[.string s, .string t] w fun e w' => e = .returned (.bool true) ∧ Below w.heap.size w w' := by
  have FX := mkHid lfixed_at
  have R1 : Hid (∀ w, Sg w → Calls Tryd.prog 7 #[.string s] w fun e w' => ∃ v, e = .returned (.tuple #[v, .bool (decide (c = 0))]) ∧ FmA w.heap.size w' o v ∧ Below w.heap.size w w') := fun w hS => by
    rcases hs.kinds with ⟨rfl, f, rfl, _⟩ | ⟨h0, _⟩
    · obtain ⟨_, _, _, _, _, rfl, rfl⟩ := hs.small
      exact right_yes hs w hS h1
    · rw [decide_eq_false h0]; exact right_no hs h0 w hS h1
  have R2 : Hid (∀ w, Sg w → Calls Tryd.prog 7 #[.string t] w fun e w' => ∃ v, e = .returned (.tuple #[v, .bool (decide (c' = 0))]) ∧ FmA w.heap.size w' o' v ∧ Below w.heap.size w w') := fun w hS => by
    rcases ht.kinds with ⟨rfl, f, rfl, _⟩ | ⟨h0, _⟩
    · obtain ⟨_, _, _, _, _, rfl, rfl⟩ := ht.small
      exact right_yes ht w hS h2
    · rw [decide_eq_false h0]; exact right_no ht h0 w hS h2
  obtain ⟨p, hp⟩ : ∃ p, decide (c = 0) = p := ⟨_, rfl⟩
  obtain ⟨p', hp'⟩ : ∃ p, decide (c' = 0) = p := ⟨_, rfl⟩
  have hpp : p = false ∨ (p = true ∧ p' = false) := by
    cases p with
    | false => exact .inl rfl
    | true => exact .inr ⟨rfl, by rw [← hp']; exact decide_eq_false (hn.resolve_left (fun h => h (of_decide_eq_true hp)))⟩
  rw [hp] at R1
  rw [hp'] at R2
  clear hs ht hn hp hp'
  rcases hpp with rfl | ⟨rfl, rfl⟩
  all_goals
    go_enter Tryd.func3, Tryd.ntmps3
    go_wp2_with (go_at_call 6; refine (FX.out _ hS).mono ?_; rintro e w1 ⟨rfl, hB1⟩)
    refine (R1.out _ (hS.below hB1)).mono ?_
    rintro e w2 ⟨v, rfl, ⟨op, xs, m, bo, n1, c1, lo, ln, lc, rfl, -, -⟩, hB2⟩
    go_wp2_with (fail)
    refine (R2.out _ ((hS.below (bt2 hB1 hB2)).alloc _)).mono ?_
    rintro e w4 ⟨v2, rfl, ⟨op2, xs2, m2, bo2, n12, c12, lo2, ln2, lc2, rfl, -, -⟩, hB4⟩
    go_wp2
    go_ret
    exact ⟨rfl, bta (bt2 (bta (bt2 hB1 hB2) _) hB4) _⟩
set_option maxRecDepth 100000 in
set_option maxHeartbeats 4000000 in
theorem brackets_yes (s t : ByteArray) (w : World) (hS : Sg w) {f g : Fm} (hs : An s (some f) 0 0 0) (ht : An t (some g) 0 0 0) (zs : s.size ≤ 4096) (zt : t.size ≤ 4096) :
    Calls Tryd.prog 3 #[.string s, .string t] w fun e w' => e = .returned (.bool true) ∧ Below w.heap.size w w' := by
  have FX := mkHid lfixed_at
  have R1 := mkHid (fun w hS => right_yes hs w hS (by omega))
  have R2 := mkHid (fun w hS => right_yes ht w hS (by omega))
  have z1 : (kOpen ++ s).size = s.size + 1 := by rw [ByteArray.size_append]; show 1 + s.size = _; omega
  have zz : ∀ (x : ByteArray) (M : ByteArray), (x ++ M).size = x.size + M.size := fun x M => ByteArray.size_append
  have y1 : (kOpen ++ s ++ mAnd).size = s.size + 8 := by rw [zz, z1]; rfl
  have y2 : (kOpen ++ s ++ mAnd ++ t).size = s.size + 8 + t.size := by rw [zz, y1]
  have y3 : (kOpen ++ s ++ mOr).size = s.size + 7 := by rw [zz, z1]; rfl
  have y4 : (kOpen ++ s ++ mOr ++ t).size = s.size + 7 + t.size := by rw [zz, y3]
  have y5 : (kOpen ++ s ++ mTo).size = s.size + 7 := by rw [zz, z1]; rfl
  have y6 : (kOpen ++ s ++ mTo ++ t).size = s.size + 7 + t.size := by rw [zz, y5]
  have y7 : (kOpen ++ s ++ mIff).size = s.size + 6 := by rw [zz, z1]; rfl
  have y8 : (kOpen ++ s ++ mIff ++ t).size = s.size + 6 + t.size := by rw [zz, y7]
  have y9 : (lNot ++ s).size = s.size + 5 := by rw [zz]; show 5 + s.size = _; omega
  have ya : (lEx ++ s).size = s.size + 10 := by rw [zz]; show 10 + s.size = _; omega
  have yb : (lAll ++ s).size = s.size + 8 := by rw [zz]; show 8 + s.size = _; omega
  have q1 : kOpen.size = 1 := rfl
  have q2 : kShut.size = 1 := rfl
  have q3 : mAnd.size = 7 := rfl
  have q4 : mOr.size = 6 := rfl
  have q5 : mTo.size = 6 := rfl
  have q6 : mIff.size = 5 := rfl
  have q7 : lNot.size = 5 := rfl
  have q8 : lEx.size = 10 := rfl
  have q9 : lAll.size = 8 := rfl
  have qa : lTwo.size = 2 := rfl
  clear zz
  have hs0 := mkHid hs
  have ht0 := mkHid ht
  clear hs ht
  go_enter Tryd.func3, Tryd.ntmps3
  go_wp2_with (go_at_call 6; refine (FX.out _ hS).mono ?_; rintro e w1 ⟨rfl, hB1⟩)
  refine (R1.out _ (hS.below hB1)).mono ?_
  rintro e w2 ⟨v, rfl, ⟨op, xs, m, bo, n1, c1, lo, ln, lc, rfl, -, hsf⟩, hB2⟩
  go_wp2_with (fail)
  refine (R2.out _ ((hS.below (bt2 hB1 hB2)).alloc _)).mono ?_
  rintro e w4 ⟨v2, rfl, ⟨op2, xs2, m2, bo2, n12, c12, lo2, ln2, lc2, rfl, -, hsg⟩, hB4⟩
  go_wp2_with (fail)
  -- REGION
  have hmx : Tryd.prog.follows .mixedOrders = true := by kernel_rfl
  have hX5 : Rb ((w4.alloc (.cells #[.int .i64 op2, .string xs2, .int .i64 m2, .slice bo2 n12 c12, .slice lo2 ln2 lc2] 27)).alloc (.cells #[.string (kOpen ++ s ++ mAnd ++ t ++ kShut), .string (kOpen ++ s ++ mOr ++ t ++ kShut), .string (kOpen ++ s ++ mTo ++ t ++ kShut), .string (kOpen ++ s ++ mIff ++ t ++ kShut), .string (lNot ++ s ++ kShut), .string (lEx ++ s ++ kShut), .string (lAll ++ s ++ lTwo)] 9)) w2.heap.size #[.int .i64 op, .string xs, .int .i64 m, .slice bo n1 c1, .slice lo ln lc] 27 := (((rb_new w2 #[.int .i64 op, .string xs, .int .i64 m, .slice bo n1 c1, .slice lo ln lc] 27).keep hB4).keep (bal w4 _)).keep (bal _ _)
  have hX7 : Rb ((w4.alloc (.cells #[.int .i64 op2, .string xs2, .int .i64 m2, .slice bo2 n12 c12, .slice lo2 ln2 lc2] 27)).alloc (.cells #[.string (kOpen ++ s ++ mAnd ++ t ++ kShut), .string (kOpen ++ s ++ mOr ++ t ++ kShut), .string (kOpen ++ s ++ mTo ++ t ++ kShut), .string (kOpen ++ s ++ mIff ++ t ++ kShut), .string (lNot ++ s ++ kShut), .string (lEx ++ s ++ kShut), .string (lAll ++ s ++ lTwo)] 9)) w4.heap.size #[.int .i64 op2, .string xs2, .int .i64 m2, .slice bo2 n12 c12, .slice lo2 ln2 lc2] 27 := (rb_new w4 #[.int .i64 op2, .string xs2, .int .i64 m2, .slice bo2 n12 c12, .slice lo2 ln2 lc2] 27).keep (bal _ _)
  have hXt : Rb ((w4.alloc (.cells #[.int .i64 op2, .string xs2, .int .i64 m2, .slice bo2 n12 c12, .slice lo2 ln2 lc2] 27)).alloc (.cells #[.string (kOpen ++ s ++ mAnd ++ t ++ kShut), .string (kOpen ++ s ++ mOr ++ t ++ kShut), .string (kOpen ++ s ++ mTo ++ t ++ kShut), .string (kOpen ++ s ++ mIff ++ t ++ kShut), .string (lNot ++ s ++ kShut), .string (lEx ++ s ++ kShut), .string (lAll ++ s ++ lTwo)] 9)) (w4.heap.size + 1) #[.string (kOpen ++ s ++ mAnd ++ t ++ kShut), .string (kOpen ++ s ++ mOr ++ t ++ kShut), .string (kOpen ++ s ++ mTo ++ t ++ kShut), .string (kOpen ++ s ++ mIff ++ t ++ kShut), .string (lNot ++ s ++ kShut), .string (lEx ++ s ++ kShut), .string (lAll ++ s ++ lTwo)] 9 := by
    have := rb_new (w4.alloc (.cells #[.int .i64 op2, .string xs2, .int .i64 m2, .slice bo2 n12 c12, .slice lo2 ln2 lc2] 27)) #[.string (kOpen ++ s ++ mAnd ++ t ++ kShut), .string (kOpen ++ s ++ mOr ++ t ++ kShut), .string (kOpen ++ s ++ mTo ++ t ++ kShut), .string (kOpen ++ s ++ mIff ++ t ++ kShut), .string (lNot ++ s ++ kShut), .string (lEx ++ s ++ kShut), .string (lAll ++ s ++ lTwo)] 9
    rwa [World.size_alloc] at this
  have fF : FmE f (.agg #[.int .i64 op, .string xs, .int .i64 m, .slice bo n1 c1, .slice lo ln lc]) ((w4.alloc (.cells #[.int .i64 op2, .string xs2, .int .i64 m2, .slice bo2 n12 c12, .slice lo2 ln2 lc2] 27)).alloc (.cells #[.string (kOpen ++ s ++ mAnd ++ t ++ kShut), .string (kOpen ++ s ++ mOr ++ t ++ kShut), .string (kOpen ++ s ++ mTo ++ t ++ kShut), .string (kOpen ++ s ++ mIff ++ t ++ kShut), .string (lNot ++ s ++ kShut), .string (lEx ++ s ++ kShut), .string (lAll ++ s ++ lTwo)] 9)) := ⟨_, _, _, _, _, _, _, _, _, rfl, (((hsf f rfl).plain.keep (bal w2 (.cells #[.int .i64 op, .string xs, .int .i64 m, .slice bo n1 c1, .slice lo ln lc] 27))).keep hB4).keep (bt2 (bal w4 _) (bal _ _))⟩
  have fG : FmE g (.agg #[.int .i64 op2, .string xs2, .int .i64 m2, .slice bo2 n12 c12, .slice lo2 ln2 lc2]) ((w4.alloc (.cells #[.int .i64 op2, .string xs2, .int .i64 m2, .slice bo2 n12 c12, .slice lo2 ln2 lc2] 27)).alloc (.cells #[.string (kOpen ++ s ++ mAnd ++ t ++ kShut), .string (kOpen ++ s ++ mOr ++ t ++ kShut), .string (kOpen ++ s ++ mTo ++ t ++ kShut), .string (kOpen ++ s ++ mIff ++ t ++ kShut), .string (lNot ++ s ++ kShut), .string (lEx ++ s ++ kShut), .string (lAll ++ s ++ lTwo)] 9)) := ⟨_, _, _, _, _, _, _, _, _, rfl, ((hsg g rfl).plain).keep (bt2 (bal w4 _) (bal _ _))⟩
  have hBs : Below w.heap.size w ((w4.alloc (.cells #[.int .i64 op2, .string xs2, .int .i64 m2, .slice bo2 n12 c12, .slice lo2 ln2 lc2] 27)).alloc (.cells #[.string (kOpen ++ s ++ mAnd ++ t ++ kShut), .string (kOpen ++ s ++ mOr ++ t ++ kShut), .string (kOpen ++ s ++ mTo ++ t ++ kShut), .string (kOpen ++ s ++ mIff ++ t ++ kShut), .string (lNot ++ s ++ kShut), .string (lEx ++ s ++ kShut), .string (lAll ++ s ++ lTwo)] 9)) := bta (bta (bt2 (bta (bt2 hB1 hB2) _) hB4) _) _
  have hS8 : Sg ((w4.alloc (.cells #[.int .i64 op2, .string xs2, .int .i64 m2, .slice bo2 n12 c12, .slice lo2 ln2 lc2] 27)).alloc (.cells #[.string (kOpen ++ s ++ mAnd ++ t ++ kShut), .string (kOpen ++ s ++ mOr ++ t ++ kShut), .string (kOpen ++ s ++ mTo ++ t ++ kShut), .string (kOpen ++ s ++ mIff ++ t ++ kShut), .string (lNot ++ s ++ kShut), .string (lEx ++ s ++ kShut), .string (lAll ++ s ++ lTwo)] 9)) := ((((hS.below (bt2 hB1 hB2)).alloc (.cells #[.int .i64 op, .string xs, .int .i64 m, .slice bo n1 c1, .slice lo ln lc] 27)).below hB4).alloc _).alloc _
  clear hsf hsg
  generalize hW8 : ((w4.alloc (.cells #[.int .i64 op2, .string xs2, .int .i64 m2, .slice bo2 n12 c12, .slice lo2 ln2 lc2] 27)).alloc (.cells #[.string (kOpen ++ s ++ mAnd ++ t ++ kShut), .string (kOpen ++ s ++ mOr ++ t ++ kShut), .string (kOpen ++ s ++ mTo ++ t ++ kShut), .string (kOpen ++ s ++ mIff ++ t ++ kShut), .string (lNot ++ s ++ kShut), .string (lEx ++ s ++ kShut), .string (lAll ++ s ++ lTwo)] 9)) = W8 at hX5 hX7 hXt fF fG hBs hS8 ⊢
  clear hW8
  have hX5d := hX5.keep ((Below.refl _ W8).drew)
  have hX7d := hX7.keep ((Below.refl _ W8).drew)
  have fFd := fF.keep ((Below.refl _ W8).drew)
  have fGd := fG.keep ((Below.refl _ W8).drew)
  refine wp_region_props (GK [(67, .lit f (.agg #[.int .i64 op, .string xs, .int .i64 m, .slice bo n1 c1, .slice lo ln lc])), (68, .lit g (.agg #[.int .i64 op2, .string xs2, .int .i64 m2, .slice bo2 n12 c12, .slice lo2 ln2 lc2])), (69, .sl [f, g]), (70, .fm (fPair 3 f g)), (71, .lit f (.agg #[.int .i64 op, .string xs, .int .i64 m, .slice bo n1 c1, .slice lo ln lc])), (72, .lit g (.agg #[.int .i64 op2, .string xs2, .int .i64 m2, .slice bo2 n12 c12, .slice lo2 ln2 lc2])), (73, .sl [f, g]), (74, .fm (fPair 4 f g)), (75, .lit f (.agg #[.int .i64 op, .string xs, .int .i64 m, .slice bo n1 c1, .slice lo ln lc])), (76, .lit g (.agg #[.int .i64 op2, .string xs2, .int .i64 m2, .slice bo2 n12 c12, .slice lo2 ln2 lc2])), (77, .sl [f, g]), (78, .fm (fPair 5 f g)), (79, .lit f (.agg #[.int .i64 op, .string xs, .int .i64 m, .slice bo n1 c1, .slice lo ln lc])), (80, .lit g (.agg #[.int .i64 op2, .string xs2, .int .i64 m2, .slice bo2 n12 c12, .slice lo2 ln2 lc2])), (81, .sl [f, g]), (82, .fm (fPair 6 f g)), (83, .lit f (.agg #[.int .i64 op, .string xs, .int .i64 m, .slice bo n1 c1, .slice lo ln lc])), (84, .sl [f]), (85, .fm (fNot f)), (86, .lit f (.agg #[.int .i64 op, .string xs, .int .i64 m, .slice bo n1 c1, .slice lo ln lc])), (87, .sl [f]), (88, .fm (fQ 7 kY f)), (89, .sl [(fQ 7 kY f)]), (90, .fm (fQ 7 kX (fQ 7 kY f))), (91, .lit f (.agg #[.int .i64 op, .string xs, .int .i64 m, .slice bo n1 c1, .slice lo ln lc])), (92, .sl [f]), (93, .fm (fQ 8 kZ f)), (94, .sl [(fPair 3 f g), (fPair 4 f g), (fPair 5 f g), (fPair 6 f g), (fNot f), (fQ 7 kX (fQ 7 kY f)), (fQ 8 kZ f)]), (10, .sl [(fPair 3 f g), (fPair 4 f g), (fPair 5 f g), (fPair 6 f g), (fNot f), (fQ 7 kX (fQ 7 kY f)), (fQ 8 kZ f)])]) hmx (by kernel_rfl) (gk_keep _) ?_ ?_
  · intro k o ho
    have hk : k < 29 := (Array.getElem?_eq_some_iff.1 ho).1
    rcases (show k = 0 ∨ k = 1 ∨ k = 2 ∨ k = 3 ∨ k = 4 ∨ k = 5 ∨ k = 6 ∨ k = 7 ∨ k = 8 ∨ k = 9 ∨ k = 10 ∨ k = 11 ∨ k = 12 ∨ k = 13 ∨ k = 14 ∨ k = 15 ∨ k = 16 ∨ k = 17 ∨ k = 18 ∨ k = 19 ∨ k = 20 ∨ k = 21 ∨ k = 22 ∨ k = 23 ∨ k = 24 ∨ k = 25 ∨ k = 26 ∨ k = 27 ∨ k = 28 by omega) with rfl | rfl | rfl | rfl | rfl | rfl | rfl | rfl | rfl | rfl | rfl | rfl | rfl | rfl | rfl | rfl | rfl | rfl | rfl | rfl | rfl | rfl | rfl | rfl | rfl | rfl | rfl | rfl | rfl
    · have ho' : some _ = some o := ho
      cases ho'
      intro a w5 hold hdep hB
      exact st_load rfl ((hold 5 (by decide)).trans rfl) (hX5d.keep hB) ⟨_, rfl, fun d hd => by cases (show some 67 = some d from hd); exact gk_of rfl ⟨rfl, fFd.keep hB⟩, Below.refl _ _⟩
    · have ho' : some _ = some o := ho
      cases ho'
      intro a w5 hold hdep hB
      exact st_load rfl ((hold 7 (by decide)).trans rfl) (hX7d.keep hB) ⟨_, rfl, fun d hd => by cases (show some 68 = some d from hd); exact gk_of rfl ⟨rfl, fGd.keep hB⟩, Below.refl _ _⟩
    · have ho' : some _ = some o := ho
      cases ho'
      intro a w5 hold hdep hB
      obtain ⟨u0, e0, g0⟩ := hdep _ (Array.mem_of_getElem? (i := 0) rfl) _ _ rfl rfl rfl
      obtain ⟨x0, rfl, i0⟩ := (Kd.fmE (g0 _ rfl) (.inl ⟨_, rfl⟩)).c5
      obtain ⟨u1, e1, g1⟩ := hdep _ (Array.mem_of_getElem? (i := 1) rfl) _ _ rfl rfl rfl
      obtain ⟨x1, rfl, i1⟩ := (Kd.fmE (g1 _ rfl) (.inl ⟨_, rfl⟩)).c5
      exact st_bs2 rfl e0 e1 ⟨_, rfl, fun d hd => by cases (show some 69 = some d from hd); exact gk_of rfl (sle_new [f, g] [x0, x1] rfl (is_cons i0 (is_cons i1 is_nil)) (by simp)), bal _ _⟩
    · have ho' : some _ = some o := ho
      cases ho'
      intro a w5 hold hdep hB
      obtain ⟨u0, e0, g0⟩ := hdep _ (Array.mem_of_getElem? (i := 0) rfl) _ _ rfl rfl rfl
      obtain ⟨ao, cap, rfl, hF⟩ := SlE.fm (l := [f, g]) (g0 _ rfl) 3 emp (by decide) (by decide)
      exact st_join rfl e0 (fun w6 hb => ⟨_, rfl, fun d hd => by cases (show some 70 = some d from hd); exact gk_of rfl (FmE.keep hF hb), hb⟩)
    · have ho' : some _ = some o := ho
      cases ho'
      intro a w5 hold hdep hB
      exact st_load rfl ((hold 5 (by decide)).trans rfl) (hX5d.keep hB) ⟨_, rfl, fun d hd => by cases (show some 71 = some d from hd); exact gk_of rfl ⟨rfl, fFd.keep hB⟩, Below.refl _ _⟩
    · have ho' : some _ = some o := ho
      cases ho'
      intro a w5 hold hdep hB
      exact st_load rfl ((hold 7 (by decide)).trans rfl) (hX7d.keep hB) ⟨_, rfl, fun d hd => by cases (show some 72 = some d from hd); exact gk_of rfl ⟨rfl, fGd.keep hB⟩, Below.refl _ _⟩
    · have ho' : some _ = some o := ho
      cases ho'
      intro a w5 hold hdep hB
      obtain ⟨u0, e0, g0⟩ := hdep _ (Array.mem_of_getElem? (i := 0) rfl) _ _ rfl rfl rfl
      obtain ⟨x0, rfl, i0⟩ := (Kd.fmE (g0 _ rfl) (.inl ⟨_, rfl⟩)).c5
      obtain ⟨u1, e1, g1⟩ := hdep _ (Array.mem_of_getElem? (i := 1) rfl) _ _ rfl rfl rfl
      obtain ⟨x1, rfl, i1⟩ := (Kd.fmE (g1 _ rfl) (.inl ⟨_, rfl⟩)).c5
      exact st_bs2 rfl e0 e1 ⟨_, rfl, fun d hd => by cases (show some 73 = some d from hd); exact gk_of rfl (sle_new [f, g] [x0, x1] rfl (is_cons i0 (is_cons i1 is_nil)) (by simp)), bal _ _⟩
    · have ho' : some _ = some o := ho
      cases ho'
      intro a w5 hold hdep hB
      obtain ⟨u0, e0, g0⟩ := hdep _ (Array.mem_of_getElem? (i := 0) rfl) _ _ rfl rfl rfl
      obtain ⟨ao, cap, rfl, hF⟩ := SlE.fm (l := [f, g]) (g0 _ rfl) 4 emp (by decide) (by decide)
      exact st_join rfl e0 (fun w6 hb => ⟨_, rfl, fun d hd => by cases (show some 74 = some d from hd); exact gk_of rfl (FmE.keep hF hb), hb⟩)
    · have ho' : some _ = some o := ho
      cases ho'
      intro a w5 hold hdep hB
      exact st_load rfl ((hold 5 (by decide)).trans rfl) (hX5d.keep hB) ⟨_, rfl, fun d hd => by cases (show some 75 = some d from hd); exact gk_of rfl ⟨rfl, fFd.keep hB⟩, Below.refl _ _⟩
    · have ho' : some _ = some o := ho
      cases ho'
      intro a w5 hold hdep hB
      exact st_load rfl ((hold 7 (by decide)).trans rfl) (hX7d.keep hB) ⟨_, rfl, fun d hd => by cases (show some 76 = some d from hd); exact gk_of rfl ⟨rfl, fGd.keep hB⟩, Below.refl _ _⟩
    · have ho' : some _ = some o := ho
      cases ho'
      intro a w5 hold hdep hB
      obtain ⟨u0, e0, g0⟩ := hdep _ (Array.mem_of_getElem? (i := 0) rfl) _ _ rfl rfl rfl
      obtain ⟨x0, rfl, i0⟩ := (Kd.fmE (g0 _ rfl) (.inl ⟨_, rfl⟩)).c5
      obtain ⟨u1, e1, g1⟩ := hdep _ (Array.mem_of_getElem? (i := 1) rfl) _ _ rfl rfl rfl
      obtain ⟨x1, rfl, i1⟩ := (Kd.fmE (g1 _ rfl) (.inl ⟨_, rfl⟩)).c5
      exact st_bs2 rfl e0 e1 ⟨_, rfl, fun d hd => by cases (show some 77 = some d from hd); exact gk_of rfl (sle_new [f, g] [x0, x1] rfl (is_cons i0 (is_cons i1 is_nil)) (by simp)), bal _ _⟩
    · have ho' : some _ = some o := ho
      cases ho'
      intro a w5 hold hdep hB
      obtain ⟨u0, e0, g0⟩ := hdep _ (Array.mem_of_getElem? (i := 0) rfl) _ _ rfl rfl rfl
      obtain ⟨ao, cap, rfl, hF⟩ := SlE.fm (l := [f, g]) (g0 _ rfl) 5 emp (by decide) (by decide)
      exact st_join rfl e0 (fun w6 hb => ⟨_, rfl, fun d hd => by cases (show some 78 = some d from hd); exact gk_of rfl (FmE.keep hF hb), hb⟩)
    · have ho' : some _ = some o := ho
      cases ho'
      intro a w5 hold hdep hB
      exact st_load rfl ((hold 5 (by decide)).trans rfl) (hX5d.keep hB) ⟨_, rfl, fun d hd => by cases (show some 79 = some d from hd); exact gk_of rfl ⟨rfl, fFd.keep hB⟩, Below.refl _ _⟩
    · have ho' : some _ = some o := ho
      cases ho'
      intro a w5 hold hdep hB
      exact st_load rfl ((hold 7 (by decide)).trans rfl) (hX7d.keep hB) ⟨_, rfl, fun d hd => by cases (show some 80 = some d from hd); exact gk_of rfl ⟨rfl, fGd.keep hB⟩, Below.refl _ _⟩
    · have ho' : some _ = some o := ho
      cases ho'
      intro a w5 hold hdep hB
      obtain ⟨u0, e0, g0⟩ := hdep _ (Array.mem_of_getElem? (i := 0) rfl) _ _ rfl rfl rfl
      obtain ⟨x0, rfl, i0⟩ := (Kd.fmE (g0 _ rfl) (.inl ⟨_, rfl⟩)).c5
      obtain ⟨u1, e1, g1⟩ := hdep _ (Array.mem_of_getElem? (i := 1) rfl) _ _ rfl rfl rfl
      obtain ⟨x1, rfl, i1⟩ := (Kd.fmE (g1 _ rfl) (.inl ⟨_, rfl⟩)).c5
      exact st_bs2 rfl e0 e1 ⟨_, rfl, fun d hd => by cases (show some 81 = some d from hd); exact gk_of rfl (sle_new [f, g] [x0, x1] rfl (is_cons i0 (is_cons i1 is_nil)) (by simp)), bal _ _⟩
    · have ho' : some _ = some o := ho
      cases ho'
      intro a w5 hold hdep hB
      obtain ⟨u0, e0, g0⟩ := hdep _ (Array.mem_of_getElem? (i := 0) rfl) _ _ rfl rfl rfl
      obtain ⟨ao, cap, rfl, hF⟩ := SlE.fm (l := [f, g]) (g0 _ rfl) 6 emp (by decide) (by decide)
      exact st_join rfl e0 (fun w6 hb => ⟨_, rfl, fun d hd => by cases (show some 82 = some d from hd); exact gk_of rfl (FmE.keep hF hb), hb⟩)
    · have ho' : some _ = some o := ho
      cases ho'
      intro a w5 hold hdep hB
      exact st_load rfl ((hold 5 (by decide)).trans rfl) (hX5d.keep hB) ⟨_, rfl, fun d hd => by cases (show some 83 = some d from hd); exact gk_of rfl ⟨rfl, fFd.keep hB⟩, Below.refl _ _⟩
    · have ho' : some _ = some o := ho
      cases ho'
      intro a w5 hold hdep hB
      obtain ⟨u0, e0, g0⟩ := hdep _ (Array.mem_of_getElem? (i := 0) rfl) _ _ rfl rfl rfl
      obtain ⟨x0, rfl, i0⟩ := (Kd.fmE (g0 _ rfl) (.inl ⟨_, rfl⟩)).c5
      exact st_bs1 rfl e0 ⟨_, rfl, fun d hd => by cases (show some 84 = some d from hd); exact gk_of rfl (sle_new [f] [x0] rfl (is_cons i0 is_nil) (by simp)), bal _ _⟩
    · have ho' : some _ = some o := ho
      cases ho'
      intro a w5 hold hdep hB
      obtain ⟨u0, e0, g0⟩ := hdep _ (Array.mem_of_getElem? (i := 0) rfl) _ _ rfl rfl rfl
      obtain ⟨ao, cap, rfl, hF⟩ := SlE.fm (l := [f]) (g0 _ rfl) 2 emp (by decide) (by decide)
      exact st_join rfl e0 (fun w6 hb => ⟨_, rfl, fun d hd => by cases (show some 85 = some d from hd); exact gk_of rfl (FmE.keep hF hb), hb⟩)
    · have ho' : some _ = some o := ho
      cases ho'
      intro a w5 hold hdep hB
      exact st_load rfl ((hold 5 (by decide)).trans rfl) (hX5d.keep hB) ⟨_, rfl, fun d hd => by cases (show some 86 = some d from hd); exact gk_of rfl ⟨rfl, fFd.keep hB⟩, Below.refl _ _⟩
    · have ho' : some _ = some o := ho
      cases ho'
      intro a w5 hold hdep hB
      obtain ⟨u0, e0, g0⟩ := hdep _ (Array.mem_of_getElem? (i := 0) rfl) _ _ rfl rfl rfl
      obtain ⟨x0, rfl, i0⟩ := (Kd.fmE (g0 _ rfl) (.inl ⟨_, rfl⟩)).c5
      exact st_bs1 rfl e0 ⟨_, rfl, fun d hd => by cases (show some 87 = some d from hd); exact gk_of rfl (sle_new [f] [x0] rfl (is_cons i0 is_nil) (by simp)), bal _ _⟩
    · have ho' : some _ = some o := ho
      cases ho'
      intro a w5 hold hdep hB
      obtain ⟨u0, e0, g0⟩ := hdep _ (Array.mem_of_getElem? (i := 0) rfl) _ _ rfl rfl rfl
      obtain ⟨ao, cap, rfl, hF⟩ := SlE.fm (l := [f]) (g0 _ rfl) 7 kY (by decide) (by decide)
      exact st_build rfl e0 ⟨_, rfl, fun d hd => by cases (show some 88 = some d from hd); exact gk_of rfl hF, Below.refl _ _⟩
    · have ho' : some _ = some o := ho
      cases ho'
      intro a w5 hold hdep hB
      obtain ⟨u0, e0, g0⟩ := hdep _ (Array.mem_of_getElem? (i := 0) rfl) _ _ rfl rfl rfl
      obtain ⟨x0, rfl, i0⟩ := (Kd.fmE (g0 _ rfl) (.inr rfl)).c5
      exact st_bs1 rfl e0 ⟨_, rfl, fun d hd => by cases (show some 89 = some d from hd); exact gk_of rfl (sle_new [(fQ 7 kY f)] [x0] rfl (is_cons i0 is_nil) (by simp)), bal _ _⟩
    · have ho' : some _ = some o := ho
      cases ho'
      intro a w5 hold hdep hB
      obtain ⟨u0, e0, g0⟩ := hdep _ (Array.mem_of_getElem? (i := 0) rfl) _ _ rfl rfl rfl
      obtain ⟨ao, cap, rfl, hF⟩ := SlE.fm (l := [(fQ 7 kY f)]) (g0 _ rfl) 7 kX (by decide) (by decide)
      exact st_build rfl e0 ⟨_, rfl, fun d hd => by cases (show some 90 = some d from hd); exact gk_of rfl hF, Below.refl _ _⟩
    · have ho' : some _ = some o := ho
      cases ho'
      intro a w5 hold hdep hB
      exact st_load rfl ((hold 5 (by decide)).trans rfl) (hX5d.keep hB) ⟨_, rfl, fun d hd => by cases (show some 91 = some d from hd); exact gk_of rfl ⟨rfl, fFd.keep hB⟩, Below.refl _ _⟩
    · have ho' : some _ = some o := ho
      cases ho'
      intro a w5 hold hdep hB
      obtain ⟨u0, e0, g0⟩ := hdep _ (Array.mem_of_getElem? (i := 0) rfl) _ _ rfl rfl rfl
      obtain ⟨x0, rfl, i0⟩ := (Kd.fmE (g0 _ rfl) (.inl ⟨_, rfl⟩)).c5
      exact st_bs1 rfl e0 ⟨_, rfl, fun d hd => by cases (show some 92 = some d from hd); exact gk_of rfl (sle_new [f] [x0] rfl (is_cons i0 is_nil) (by simp)), bal _ _⟩
    · have ho' : some _ = some o := ho
      cases ho'
      intro a w5 hold hdep hB
      obtain ⟨u0, e0, g0⟩ := hdep _ (Array.mem_of_getElem? (i := 0) rfl) _ _ rfl rfl rfl
      obtain ⟨ao, cap, rfl, hF⟩ := SlE.fm (l := [f]) (g0 _ rfl) 8 kZ (by decide) (by decide)
      exact st_build rfl e0 ⟨_, rfl, fun d hd => by cases (show some 93 = some d from hd); exact gk_of rfl hF, Below.refl _ _⟩
    · have ho' : some _ = some o := ho
      cases ho'
      intro a w5 hold hdep hB
      obtain ⟨u0, e0, g0⟩ := hdep _ (Array.mem_of_getElem? (i := 0) rfl) _ _ rfl rfl rfl
      obtain ⟨x0, rfl, i0⟩ := (Kd.fmE (g0 _ rfl) (.inr rfl)).c5
      obtain ⟨u1, e1, g1⟩ := hdep _ (Array.mem_of_getElem? (i := 1) rfl) _ _ rfl rfl rfl
      obtain ⟨x1, rfl, i1⟩ := (Kd.fmE (g1 _ rfl) (.inr rfl)).c5
      obtain ⟨u2, e2, g2⟩ := hdep _ (Array.mem_of_getElem? (i := 2) rfl) _ _ rfl rfl rfl
      obtain ⟨x2, rfl, i2⟩ := (Kd.fmE (g2 _ rfl) (.inr rfl)).c5
      obtain ⟨u3, e3, g3⟩ := hdep _ (Array.mem_of_getElem? (i := 3) rfl) _ _ rfl rfl rfl
      obtain ⟨x3, rfl, i3⟩ := (Kd.fmE (g3 _ rfl) (.inr rfl)).c5
      obtain ⟨u4, e4, g4⟩ := hdep _ (Array.mem_of_getElem? (i := 4) rfl) _ _ rfl rfl rfl
      obtain ⟨x4, rfl, i4⟩ := (Kd.fmE (g4 _ rfl) (.inr rfl)).c5
      obtain ⟨u5, e5, g5⟩ := hdep _ (Array.mem_of_getElem? (i := 5) rfl) _ _ rfl rfl rfl
      obtain ⟨x5, rfl, i5⟩ := (Kd.fmE (g5 _ rfl) (.inr rfl)).c5
      obtain ⟨u6, e6, g6⟩ := hdep _ (Array.mem_of_getElem? (i := 6) rfl) _ _ rfl rfl rfl
      obtain ⟨x6, rfl, i6⟩ := (Kd.fmE (g6 _ rfl) (.inr rfl)).c5
      exact st_bs7 rfl e0 e1 e2 e3 e4 e5 e6 ⟨_, rfl, fun d hd => by cases (show some 94 = some d from hd); exact gk_of rfl (sle_new [(fPair 3 f g), (fPair 4 f g), (fPair 5 f g), (fPair 6 f g), (fNot f), (fQ 7 kX (fQ 7 kY f)), (fQ 8 kZ f)] [x0, x1, x2, x3, x4, x5, x6] rfl (is_cons i0 (is_cons i1 (is_cons i2 (is_cons i3 (is_cons i4 (is_cons i5 (is_cons i6 is_nil))))))) (by simp)), bal _ _⟩
    · have ho' : some _ = some o := ho
      cases ho'
      intro a w5 hold hdep hB
      obtain ⟨u0, e0, g0⟩ := hdep _ (Array.mem_of_getElem? (i := 0) rfl) _ _ rfl rfl rfl
      exact st_assign rfl e0 ⟨_, rfl, fun d hd => by cases (show some 10 = some d from hd); exact gk_of rfl (g0 _ rfl), Below.refl _ _⟩
  · intro vs w10 hB10 hG
    have hT : SlE [(fPair 3 f g), (fPair 4 f g), (fPair 5 f g), (fPair 6 f g), (fNot f), (fQ 7 kX (fQ 7 kY f)), (fQ 8 kZ f)] (vs 10) w10 := hG 10 (by decide) _ rfl
    obtain ⟨la, lcap, hv10, hl1, hl2, hlr⟩ := hT
    have hXt10 := (hXt.keep ((Below.refl _ W8).drew)).keep hB10
    have hB0 := bt2 hBs (bt2 ((Below.refl _ W8).drew) hB10)
    have hS10 := (hS8.below ((Below.refl _ W8).drew)).below hB10
    have hv : vs 10 = .slice la 7 lcap := hv10
    clear hv10 hG hX5d hX7d fFd fGd fF fG hX5 hX7
    change Exit.then _ _ Exit.normal (putR vs [67, 68, 69, 70, 71, 72, 73, 74, 75, 76, 77, 78, 79, 80, 81, 82, 83, 84, 85, 86, 87, 88, 89, 90, 91, 92, 93, 94, 10] _) w10
    simp only [putR, hv]
    generalize vs 67 = v67
    generalize vs 68 = v68
    generalize vs 69 = v69
    generalize vs 70 = v70
    generalize vs 71 = v71
    generalize vs 72 = v72
    generalize vs 73 = v73
    generalize vs 74 = v74
    generalize vs 75 = v75
    generalize vs 76 = v76
    generalize vs 77 = v77
    generalize vs 78 = v78
    generalize vs 79 = v79
    generalize vs 80 = v80
    generalize vs 81 = v81
    generalize vs 82 = v82
    generalize vs 83 = v83
    generalize vs 84 = v84
    generalize vs 85 = v85
    generalize vs 86 = v86
    generalize vs 87 = v87
    generalize vs 88 = v88
    generalize vs 89 = v89
    generalize vs 90 = v90
    generalize vs 91 = v91
    generalize vs 92 = v92
    generalize vs 93 = v93
    generalize vs 94 = v94
    clear hv
    go_simp
    have HR : Hid (∀ k, k < 7 → ∃ u T, (#[.string (kOpen ++ s ++ mAnd ++ t ++ kShut), .string (kOpen ++ s ++ mOr ++ t ++ kShut), .string (kOpen ++ s ++ mTo ++ t ++ kShut), .string (kOpen ++ s ++ mIff ++ t ++ kShut), .string (lNot ++ s ++ kShut), .string (lEx ++ s ++ kShut), .string (lAll ++ s ++ lTwo)] : Array Value)[k]? = some (.string u) ∧ ([(fPair 3 f g), (fPair 4 f g), (fPair 5 f g), (fPair 6 f g), (fNot f), (fQ 7 kX (fQ 7 kY f)), (fQ 8 kZ f)] : List Fm)[k]? = some T ∧ Reads u T ∧ u.size ≤ 9223372036854775807) := by
      obtain ⟨a, _, hla, hwa, _⟩ := An.small hs0.out
      obtain ⟨b, _, hlb, hwb, _⟩ := An.small ht0.out
      have zz : ∀ (x : ByteArray) (M : ByteArray), (x ++ M).size = x.size + M.size := fun x M => ByteArray.size_append
      intro k hk
      rcases (show k = 0 ∨ k = 1 ∨ k = 2 ∨ k = 3 ∨ k = 4 ∨ k = 5 ∨ k = 6 by omega) with rfl | rfl | rfl | rfl | rfl | rfl | rfl
      · exact ⟨_, _, rfl, rfl, bt_and hla hlb hwa hwb, by rw [zz, y2]; omega⟩
      · exact ⟨_, _, rfl, rfl, bt_or hla hlb hwa hwb, by rw [zz, y4]; omega⟩
      · exact ⟨_, _, rfl, rfl, bt_to hla hlb hwa hwb, by rw [zz, y6]; omega⟩
      · exact ⟨_, _, rfl, rfl, bt_iff hla hlb hwa hwb, by rw [zz, y8]; omega⟩
      · exact ⟨_, _, rfl, rfl, bt_not hla hwa, by rw [zz, y9]; omega⟩
      · exact ⟨_, _, rfl, rfl, bt_ex hla hwa, by rw [zz, ya]; omega⟩
      · exact ⟨_, _, rfl, rfl, bt_all hla hwa, by rw [zz, yb]; omega⟩
    have HL := mkHid hlr
    clear hlr y1 y2 y3 y4 y5 y6 y7 y8 y9 ya yb z1 q1 q2 q3 q4 q5 q6 q7 q8 q9 qa hs0 ht0 R1 R2 FX
    go_wp2
    go_loopw [97] (fun i wr => ∃ k : Nat, k ≤ 7 ∧ i = .int .i64 k ∧ Below w10.heap.size w10 wr) (fun i _ => 7 - (intOf i).toNat)
    case atStart => exact ⟨0, by omega, rfl, Below.refl _ _⟩
    case round =>
      obtain ⟨k, hk, rfl, hBr⟩ := hrel
      have hbw := hBr.size
      by_cases hlt : k < 7
      · obtain ⟨u, T, hTX, hTL, hRd, hu⟩ := HR.out k hlt
        have hXr := hXt10.keep hBr
        obtain ⟨tx, -⟩ := txcell hXr k _ hTX
        obtain ⟨gg, of, d0, d1, d2, d3, d4, hla, hgg, p0, p1, p2, p3, p4, hrT⟩ := RdFL.get HL.out k (by simpa using hlt)
        have hTe : [(fPair 3 f g), (fPair 4 f g), (fPair 5 f g), (fPair 6 f g), (fNot f), (fQ 7 kX (fQ 7 kY f)), (fQ 8 kZ f)][k]'(by simpa using hlt) = T := by
          rw [List.getElem?_eq_getElem (by simpa using hlt)] at hTL
          exact Option.some.inj hTL
        rw [hTe] at hrT
        have hvT : FmV w10 T (.agg #[d0, d1, d2, d3, d4]) := ⟨_, _, _, _, _, rfl, hrT⟩
        obtain ⟨to, tx1, tm, tbo, tn1, tc1, tao, tn2, tc2, hte, -⟩ := fm_open hvT
        simp only [Value.agg.injEq, Array.mk.injEq, List.cons.injEq, and_true] at hte
        obtain ⟨rfl, rfl, rfl, rfl, rfl⟩ := hte
        subst hla
        have HC : Hid (∀ wz, Below w10.heap.size w10 wz → wz.cell? ⟨gg, of + k * 5, none⟩ = some (.int .i64 to) ∧ wz.cell? ⟨gg, of + k * 5 + 1, none⟩ = some (.string tx1) ∧ wz.cell? ⟨gg, of + k * 5 + 2, none⟩ = some (.int .i64 tm) ∧ wz.cell? ⟨gg, of + k * 5 + 3, none⟩ = some (.slice tbo tn1 tc1) ∧ wz.cell? ⟨gg, of + k * 5 + 4, none⟩ = some (.slice tao tn2 tc2)) := by
          intro wz hz
          rw [Nat.zero_add] at p0 p1 p2 p3 p4
          exact ⟨(hz.cell (p := ⟨gg, _, none⟩) hgg).trans p0, (hz.cell (p := ⟨gg, _, none⟩) hgg).trans p1, (hz.cell (p := ⟨gg, _, none⟩) hgg).trans p2, (hz.cell (p := ⟨gg, _, none⟩) hgg).trans p3, (hz.cell (p := ⟨gg, _, none⟩) hgg).trans p4⟩
        clear p0 p1 p2 p3 p4 hvT HL HR hTe hTL hTX
        obtain ⟨o, c, hAn, hcase⟩ := hRd
        rcases hcase with ⟨rfl, rfl, hchk⟩ | rfl | rfl | rfl
        · have FA : Hid (∀ w, Sg w → u.size ≤ 9223372036854775807 → Calls Tryd.prog 9 #[.string u] w fun e w' => ∃ v, e = .returned (.tuple #[v, .agg #[.int .i64 0, .int .i64 0, .int .i64 0]]) ∧ FmA w.heap.size w' (some T) v ∧ Below w.heap.size w w') := fun w h1 h2 => formula_any hAn w h1 h2
          have hsm : (decide (chk nmB T = 0) && decide (chk nmB T = 0) && eqB T T) = true := by rw [hchk]; simp [eqB_yes rfl]
          clear hAn hchk
          go_wp2_with (fail)
          refine (FA.out _ (hS10.below hBr) hu).mono ?_
          rintro e w5 ⟨v, rfl, ⟨op3, xs3, m3, bo3, n13, c13, lo3, ln3, lc3, rfl, -, hso⟩, hB5⟩
          have hBz := bta (bta (bt2 hBr hB5) (.cells #[.int .i64 op3, .string xs3, .int .i64 m3, .slice bo3 n13 c13, .slice lo3 ln3 lc3] 27)) (.cells zA 36)
          have hX14 : Rb ((w5.alloc (.cells #[.int .i64 op3, .string xs3, .int .i64 m3, .slice bo3 n13 c13, .slice lo3 ln3 lc3] 27)).alloc (.cells zA 36)) (w5.heap.size + 1) zA 36 := by
            have := rb_new (w5.alloc (.cells #[.int .i64 op3, .string xs3, .int .i64 m3, .slice bo3 n13 c13, .slice lo3 ln3 lc3] 27)) zA 36
            rwa [World.size_alloc] at this
          obtain ⟨y0, -⟩ := txcell hX14 0 _ rfl
          obtain ⟨y1, -⟩ := txcell hX14 1 _ rfl
          obtain ⟨y2, -⟩ := txcell hX14 2 _ rfl
          have SC : Hid (∀ wz, Below w5.heap.size w5 wz → Calls Tryd.prog 11 #[.agg #[.int .i64 op3, .string xs3, .int .i64 m3, .slice bo3 n13 c13, .slice lo3 ln3 lc3], .agg #[.int .i64 to, .string tx1, .int .i64 tm, .slice tbo tn1 tc1, .slice tao tn2 tc2]] wz fun e w' => e = .returned (.bool true) ∧ Below wz.heap.size wz w') := fun wz hb => by
            rw [← hsm]
            exact same_run w5 T T _ _ wz ⟨_, _, _, _, _, rfl, (hso T rfl).plain⟩ ⟨_, _, _, _, _, rfl, hrT.keep (bt2 hBr hB5)⟩ hb
          clear hso hsm hrT
          have hX13 := (rb_new w5 #[.int .i64 op3, .string xs3, .int .i64 m3, .slice bo3 n13 c13, .slice lo3 ln3 lc3] 27).keep (bal _ (.cells zA 36))
          go_wp2_with (go_at_call 10; refine (great_at 0 0 0 false _ (by decide)).mono ?_; rintro e w6 ⟨rfl, hB6⟩; obtain ⟨s0, s1, s2, s3, s4⟩ := HC.out _ (bt2 hBz hB6); have hX14' := hX14.keep hB6; have hX13' := hX13.keep hB6; obtain ⟨t0, -⟩ := txcell hX14' 0 _ rfl; obtain ⟨t1, -⟩ := txcell hX14' 1 _ rfl; obtain ⟨t2, -⟩ := txcell hX14' 2 _ rfl; obtain ⟨r0, -⟩ := txcell hX13' 0 _ rfl; obtain ⟨r1, -⟩ := txcell hX13' 1 _ rfl; obtain ⟨r2, -⟩ := txcell hX13' 2 _ rfl; obtain ⟨r3, -⟩ := txcell hX13' 3 _ rfl; obtain ⟨r4, -⟩ := txcell hX13' 4 _ rfl)
          have hB56 : Below w5.heap.size w5 w6.drew := (bt2 (bta (bal w5 _) _) hB6).drew
          go_region_with (go_at_call 11
                          refine (SC.out _ ?_).mono ?_
                          exact hB56
                          rintro e w7 ⟨rfl, hB7⟩)
          all_goals
            go_wp2
            go_roundw
            case rel => exact ⟨k + 1, by omega, by go_num, bt2 (bt2 hBz hB6) (bt2 ((Below.refl _ w6).drew) hB7)⟩
            case measure => simp [intOf]; omega
        · have FA : Hid (∀ w, Sg w → u.size ≤ 9223372036854775807 → Calls Tryd.prog 9 #[.string u] w fun e w' => ∃ v, e = .returned (.tuple #[v, .agg #[.int .i64 70, .int .i64 0, .int .i64 0]]) ∧ FmA w.heap.size w' o v ∧ Below w.heap.size w w') := fun w h1 h2 => formula_any hAn w h1 h2
          clear hAn hrT
          go_wp2_with (fail)
          refine (FA.out _ (hS10.below hBr) hu).mono ?_
          rintro e w5 ⟨v, rfl, ⟨op3, xs3, m3, bo3, n13, c13, lo3, ln3, lc3, rfl, -, hso⟩, hB5⟩
          have hBz := bta (bta (bt2 hBr hB5) (.cells #[.int .i64 op3, .string xs3, .int .i64 m3, .slice bo3 n13 c13, .slice lo3 ln3 lc3] 27)) (.cells #[.int .i64 70, .int .i64 0, .int .i64 0] 36)
          have hX14 : Rb ((w5.alloc (.cells #[.int .i64 op3, .string xs3, .int .i64 m3, .slice bo3 n13 c13, .slice lo3 ln3 lc3] 27)).alloc (.cells #[.int .i64 70, .int .i64 0, .int .i64 0] 36)) (w5.heap.size + 1) #[.int .i64 70, .int .i64 0, .int .i64 0] 36 := by
            have := rb_new (w5.alloc (.cells #[.int .i64 op3, .string xs3, .int .i64 m3, .slice bo3 n13 c13, .slice lo3 ln3 lc3] 27)) #[.int .i64 70, .int .i64 0, .int .i64 0] 36
            rwa [World.size_alloc] at this
          obtain ⟨y0, -⟩ := txcell hX14 0 _ rfl
          obtain ⟨y1, -⟩ := txcell hX14 1 _ rfl
          obtain ⟨y2, -⟩ := txcell hX14 2 _ rfl
          clear hso
          go_wp2_with (go_at_call 10; refine (great_at 70 0 0 true _ (by decide)).mono ?_; rintro e w6 ⟨rfl, hB6⟩; have hX14' := hX14.keep hB6; obtain ⟨t1, -⟩ := txcell hX14' 1 _ rfl; obtain ⟨t2, -⟩ := txcell hX14' 2 _ rfl)
          go_roundw
          case rel => exact ⟨k + 1, by omega, by go_num, bt2 hBz hB6⟩
          case measure => simp [intOf]; omega
        · have FA : Hid (∀ w, Sg w → u.size ≤ 9223372036854775807 → Calls Tryd.prog 9 #[.string u] w fun e w' => ∃ v, e = .returned (.tuple #[v, .agg #[.int .i64 73, .int .i64 0, .int .i64 0]]) ∧ FmA w.heap.size w' o v ∧ Below w.heap.size w w') := fun w h1 h2 => formula_any hAn w h1 h2
          clear hAn hrT
          go_wp2_with (fail)
          refine (FA.out _ (hS10.below hBr) hu).mono ?_
          rintro e w5 ⟨v, rfl, ⟨op3, xs3, m3, bo3, n13, c13, lo3, ln3, lc3, rfl, -, hso⟩, hB5⟩
          have hBz := bta (bta (bt2 hBr hB5) (.cells #[.int .i64 op3, .string xs3, .int .i64 m3, .slice bo3 n13 c13, .slice lo3 ln3 lc3] 27)) (.cells #[.int .i64 73, .int .i64 0, .int .i64 0] 36)
          have hX14 : Rb ((w5.alloc (.cells #[.int .i64 op3, .string xs3, .int .i64 m3, .slice bo3 n13 c13, .slice lo3 ln3 lc3] 27)).alloc (.cells #[.int .i64 73, .int .i64 0, .int .i64 0] 36)) (w5.heap.size + 1) #[.int .i64 73, .int .i64 0, .int .i64 0] 36 := by
            have := rb_new (w5.alloc (.cells #[.int .i64 op3, .string xs3, .int .i64 m3, .slice bo3 n13 c13, .slice lo3 ln3 lc3] 27)) #[.int .i64 73, .int .i64 0, .int .i64 0] 36
            rwa [World.size_alloc] at this
          obtain ⟨y0, -⟩ := txcell hX14 0 _ rfl
          obtain ⟨y1, -⟩ := txcell hX14 1 _ rfl
          obtain ⟨y2, -⟩ := txcell hX14 2 _ rfl
          clear hso
          go_wp2_with (go_at_call 10; refine (great_at 73 0 0 true _ (by decide)).mono ?_; rintro e w6 ⟨rfl, hB6⟩; have hX14' := hX14.keep hB6; obtain ⟨t1, -⟩ := txcell hX14' 1 _ rfl; obtain ⟨t2, -⟩ := txcell hX14' 2 _ rfl)
          go_roundw
          case rel => exact ⟨k + 1, by omega, by go_num, bt2 hBz hB6⟩
          case measure => simp [intOf]; omega
        · have FA : Hid (∀ w, Sg w → u.size ≤ 9223372036854775807 → Calls Tryd.prog 9 #[.string u] w fun e w' => ∃ v, e = .returned (.tuple #[v, .agg #[.int .i64 72, .int .i64 0, .int .i64 0]]) ∧ FmA w.heap.size w' o v ∧ Below w.heap.size w w') := fun w h1 h2 => formula_any hAn w h1 h2
          clear hAn hrT
          go_wp2_with (fail)
          refine (FA.out _ (hS10.below hBr) hu).mono ?_
          rintro e w5 ⟨v, rfl, ⟨op3, xs3, m3, bo3, n13, c13, lo3, ln3, lc3, rfl, -, hso⟩, hB5⟩
          have hBz := bta (bta (bt2 hBr hB5) (.cells #[.int .i64 op3, .string xs3, .int .i64 m3, .slice bo3 n13 c13, .slice lo3 ln3 lc3] 27)) (.cells #[.int .i64 72, .int .i64 0, .int .i64 0] 36)
          have hX14 : Rb ((w5.alloc (.cells #[.int .i64 op3, .string xs3, .int .i64 m3, .slice bo3 n13 c13, .slice lo3 ln3 lc3] 27)).alloc (.cells #[.int .i64 72, .int .i64 0, .int .i64 0] 36)) (w5.heap.size + 1) #[.int .i64 72, .int .i64 0, .int .i64 0] 36 := by
            have := rb_new (w5.alloc (.cells #[.int .i64 op3, .string xs3, .int .i64 m3, .slice bo3 n13 c13, .slice lo3 ln3 lc3] 27)) #[.int .i64 72, .int .i64 0, .int .i64 0] 36
            rwa [World.size_alloc] at this
          obtain ⟨y0, -⟩ := txcell hX14 0 _ rfl
          obtain ⟨y1, -⟩ := txcell hX14 1 _ rfl
          obtain ⟨y2, -⟩ := txcell hX14 2 _ rfl
          clear hso
          go_wp2_with (go_at_call 10; refine (great_at 72 0 0 true _ (by decide)).mono ?_; rintro e w6 ⟨rfl, hB6⟩; have hX14' := hX14.keep hB6; obtain ⟨t1, -⟩ := txcell hX14' 1 _ rfl; obtain ⟨t2, -⟩ := txcell hX14' 2 _ rfl)
          go_roundw
          case rel => exact ⟨k + 1, by omega, by go_num, bt2 hBz hB6⟩
          case measure => simp [intOf]; omega
      · obtain rfl : k = 7 := by omega
        go_wp2
        go_ret
        exact ⟨rfl, bt2 hB0 hBr⟩
/-- every way -/
theorem brackets_walk (s t : ByteArray) (w : World) (hS : Sg w) (h1 : s.size ≤ 9223372036854775807) (h2 : t.size ≤ 9223372036854775807) :
    Calls Tryd.prog 3 #[.string s, .string t] w fun e w' => e = .returned (.bool true) ∧ Below w.heap.size w w' := by
  obtain ⟨o, c, b, k, hs⟩ := An.ex s
  obtain ⟨o', c', b', k', ht⟩ := An.ex t
  by_cases hn : c ≠ 0 ∨ c' ≠ 0
  · exact brackets_no s t w hS h1 h2 hs ht hn
  · obtain rfl : c = 0 := by omega
    obtain rfl : c' = 0 := by omega
    rcases hs.kinds with ⟨_, f, rfl, _⟩ | ⟨h0, _⟩
    · rcases ht.kinds with ⟨_, g, rfl, _⟩ | ⟨h0, _⟩
      · obtain ⟨_, zs, _, _, _, rfl, rfl⟩ := hs.small
        obtain ⟨_, zt, _, _, _, rfl, rfl⟩ := ht.small
        exact brackets_yes s t w hS hs ht zs zt
      · exact absurd rfl h0
    · exact absurd rfl h0
end Go.Proofs.YtabfhdmcljdjhaaDoor.Gl
