/- Texts in brackets put together: their words, and what formula they are: plain mathematics. -/
import Derived.Test.YtabfhdmcljdjhaaGreatDoorPaI
import Derived.Test.YtabfhdmcljdjhaaGreatDoorPcP
import Derived.Test.YtabfhdmcljdjhaaGreatDoorPcT
import Derived.Laws.StructEq
import Derived.Test.YtabfhdmcljdjhaaGreatDoorDcJ
import Derived.Test.YtabfhdmcljdjhaaGreatDoorPtQ
namespace Go.Proofs.YtabfhdmcljdjhaaGreatDoor.Gl
set_option linter.unusedVariables false
set_option linter.unusedSimpArgs false

/-- x stands in u from d on -/
structure AtT (u : ByteArray) (d : Nat) (x : ByteArray) : Prop where
  size : d + x.size ≤ u.size
  byte : ∀ j, j < x.size → bt u (d + j) = bt x j
theorem AtT.self (x : ByteArray) : AtT x 0 x := ⟨by omega, fun j _ => by rw [Nat.zero_add]⟩
theorem AtT.left {A B x : ByteArray} {d : Nat} (h : AtT A d x) : AtT (A ++ B) d x :=
  ⟨by rw [ByteArray.size_append]; have := h.size; omega, fun j hj => by rw [bt_app_left _ _ _ (by have := h.size; omega)]; exact h.byte j hj⟩
theorem AtT.right {A B x : ByteArray} {d : Nat} (h : AtT B d x) : AtT (A ++ B) (A.size + d) x :=
  ⟨by rw [ByteArray.size_append]; have := h.size; omega, fun j hj => by rw [Nat.add_assoc, bt_app_right _ _ _ (by have := h.size; omega)]; exact h.byte j hj⟩
theorem AtT.to {u x : ByteArray} {d d' : Nat} (h : AtT u d x) (e : d = d') : AtT u d' x := e ▸ h
theorem AtT.simk {u x : ByteArray} {d c : Nat} (h : AtT u d x) (hc : Sep c) (hn : bt u (d + x.size) = c) : SimK c u d x := ⟨hc, h.size, h.byte, .inr hn⟩
/-- a word ahead of a byte that ends words -/
theorem Lx.wordk {c k n : Nat} {u x v : ByteArray} {p : Nat} {ws : List Wd} {g : Option (Nat × Nat)} (h : SimK c u p x) (h0 : 0 < x.size) (ht : tok x 0 = .word k v n x.size) (hk : Lx u (p + x.size) ws g) : Lx u p (⟨k, v, n, p⟩ :: ws) g := by
  have := tok_simk h h0
  rw [ht, Nat.add_zero] at this
  exact .word (by have := h.size; omega) this hk
/-- a text in brackets -/
theorem Lx.brk {u s : ByteArray} {p : Nat} {a ws : List Wd} {g : Option (Nat × Nat)} (h0 : AtT u p kOpen) (h1 : AtT u (p + 1) s) (h2 : AtT u (p + 1 + s.size) kShut) (hs : Lx s 0 a none) (hk : Lx u (p + 1 + s.size + 1) ws g) :
    Lx u p (⟨2, kOpen, 0, p⟩ :: (a.map (Wd.move (p + 1)) ++ ⟨2, kShut, 0, p + 1 + s.size⟩ :: ws)) g := by
  have z1 : kOpen.size = 1 := rfl
  have z2 : kShut.size = 1 := rfl
  have s0 := h0.size
  have s2 := h2.size
  have b0 := h0.byte 0 (by decide)
  have b2 := h2.byte 0 (by decide)
  rw [Nat.add_zero] at b0 b2
  refine Lx.opens (by omega) b0 ?_
  have hk2 : SimK 41 u (p + 1) s := h1.simk sep_shut b2
  exact (hs.simk hk2 (Nat.zero_le _)).1 _ _ rfl (Lx.shuts (by omega) b2 hk)
theorem tk_of {t : Tk} {k v q : Nat} {x : ByteArray} (h : (match t with | .word k' y v' q' => k' == k && y.toList == x.toList && v' == v && q' == q | _ => false) = true) : t = .word k x v q := by
  split at h
  · simp only [Bool.and_eq_true, beq_iff_eq] at h
    obtain ⟨⟨⟨h1, h2⟩, h3⟩, h4⟩ := h
    rw [h1, toList_inj h2, h3, h4]
  · cases h
theorem tk_and : tok kAnd 0 = .word 2 kAnd 0 kAnd.size := tk_of (by decide +kernel)
theorem tk_or : tok kOr 0 = .word 2 kOr 0 kOr.size := tk_of (by decide +kernel)
theorem tk_to : tok kTo 0 = .word 2 kTo 0 kTo.size := tk_of (by decide +kernel)
theorem tk_iff : tok kIff 0 = .word 2 kIff 0 kIff.size := tk_of (by decide +kernel)
theorem tk_not : tok kNot 0 = .word 2 kNot 0 kNot.size := tk_of (by decide +kernel)
theorem tk_ex : tok kEx 0 = .word 2 kEx 0 kEx.size := tk_of (by decide +kernel)
theorem tk_all : tok kAll 0 = .word 2 kAll 0 kAll.size := tk_of (by decide +kernel)
theorem tk_comma : tok kComma 0 = .word 2 kComma 0 kComma.size := tk_of (by decide +kernel)
theorem tk_dot : tok kDot 0 = .word 2 kDot 0 kDot.size := tk_of (by decide +kernel)
abbrev kX : ByteArray := ⟨#[120]⟩
abbrev kY : ByteArray := ⟨#[121]⟩
abbrev kZ : ByteArray := ⟨#[122]⟩
theorem tk_x : tok kX 0 = .word 0 kX 0 kX.size := tk_of (by decide +kernel)
theorem tk_y : tok kY 0 = .word 0 kY 0 kY.size := tk_of (by decide +kernel)
theorem tk_z : tok kZ 0 = .word 0 kZ 0 kZ.size := tk_of (by decide +kernel)
/- a literal's parts -/
theorem AtT.cut {u L x : ByteArray} {d i : Nat} (h : AtT u d L) (hi : i + x.size ≤ L.size) (hx : ∀ j, j < x.size → bt L (i + j) = bt x j) : AtT u (d + i) x :=
  ⟨by have := h.size; omega, fun j hj => by rw [Nat.add_assoc, h.byte _ (by omega)]; exact hx j hj⟩
theorem AtT.bt {u L : ByteArray} {d i : Nat} (h : AtT u d L) (hi : i < L.size) : Gl.bt u (d + i) = Gl.bt L i := h.byte i hi
/-- what is between two brackets: a blank, a word, a blank; or the word alone -/
theorem Lx.joint {u x : ByteArray} {p : Nat} {ws : List Wd} {g : Option (Nat × Nat)} (hx : AtT u p x) (h0 : 0 < x.size) (ht : tok x 0 = .word 2 x 0 x.size) (hb : Gl.bt u (p + x.size) = 40 ∨ Gl.bt u (p + x.size) = 32) (hk : Lx u (p + x.size) ws g) : Lx u p (⟨2, x, 0, p⟩ :: ws) g := by
  rcases hb with hb | hb
  · exact Lx.wordk (hx.simk sep_open hb) h0 ht hk
  · exact Lx.wordk (hx.simk sep_blank hb) h0 ht hk
/- formulas: what stands where -/
theorem isS_at {pre post : List Wd} {w : Wd} (h : w.kind = 2) : IsS (pre ++ w :: post) pre.length w.text := by
  have := isS_right (l := pre) (r := w :: post) (i := 0) (x := w.text)
  exact this.2 (isS_head.2 ⟨h, rfl⟩)
/-- two parts in brackets with a joint of level n between -/
theorem two_whole {n : Nat} (hn : n < 4) {a b : List Wd} {f g : Fm} {wo wc wj wo' wc' : Wd} {k k' : Nat} (ho : wo.kind = 2 ∧ wo.text = kOpen) (hc : wc.kind = 2 ∧ wc.text = kShut) (hj : wj.kind = 2 ∧ wj.text = sgOf n) (ho' : wo'.kind = 2 ∧ wo'.text = kOpen) (hc' : wc'.kind = 2 ∧ wc'.text = kShut) (ha : Whole a f) (hb : Whole b g) :
    Whole (wo :: (a.map (Wd.move k) ++ wc :: wj :: wo' :: (b.map (Wd.move k') ++ wc' :: []))) (fPair (opOf n) f g) := by
  have e1 : (wo :: (a.map (Wd.move k) ++ wc :: wj :: wo' :: (b.map (Wd.move k') ++ wc' :: []))).length = a.length + 3 + (b.length + 2) := by simp; omega
  have u1 := un_br (pre := []) (post := wj :: wo' :: (b.map (Wd.move k') ++ wc' :: [])) (k := k) ho hc ha
  have u2 := un_br (pre := wo :: (a.map (Wd.move k) ++ [wc, wj])) (post := []) (k := k') ho' hc' hb
  have e2 : (wo :: (a.map (Wd.move k) ++ [wc, wj])).length = a.length + 3 := by simp
  have e3 : wo :: (a.map (Wd.move k) ++ [wc, wj]) ++ wo' :: (b.map (Wd.move k') ++ wc' :: []) = wo :: (a.map (Wd.move k) ++ wc :: wj :: wo' :: (b.map (Wd.move k') ++ wc' :: [])) := by simp
  have sj : IsS (wo :: (a.map (Wd.move k) ++ wc :: wj :: wo' :: (b.map (Wd.move k') ++ wc' :: []))) (a.length + 2) (sgOf n) := by
    have := isS_at (pre := wo :: (a.map (Wd.move k) ++ [wc])) (post := wo' :: (b.map (Wd.move k') ++ wc' :: [])) hj.1
    rw [hj.2] at this
    have e4 : (wo :: (a.map (Wd.move k) ++ [wc])).length = a.length + 2 := by simp
    have e5 : wo :: (a.map (Wd.move k) ++ [wc]) ++ wj :: wo' :: (b.map (Wd.move k') ++ wc' :: []) = wo :: (a.map (Wd.move k) ++ wc :: wj :: wo' :: (b.map (Wd.move k') ++ wc' :: [])) := by simp
    rwa [e4, e5] at this
  rw [e3, e2] at u2
  simp only [List.nil_append, List.length_nil, Nat.zero_add] at u1
  unfold Whole
  rw [e1]
  generalize wo :: (a.map (Wd.move k) ++ wc :: wj :: wo' :: (b.map (Wd.move k') ++ wc' :: [])) = W at u1 u2 sj e1
  have l1 : PF W (.lev (n + 1)) 0 (.ok (.f f) (a.length + 2)) := lev_un (by omega) u1 (noj_above hn sj)
  have l2 : PF W (.lev (n + 1)) (a.length + 2 + 1) (.ok (.f g) (a.length + 3 + (b.length + 2))) := lev_un (by omega) u2 (noj_end (by omega))
  have l3 := lev_two hn l1 sj l2 (by intro h; have := h.lt; omega)
  exact lev_up (Nat.zero_le _) (by omega) l3 (noj_end (by omega))
end Go.Proofs.YtabfhdmcljdjhaaGreatDoor.Gl
/- Answers that the document fixes: two texts, read by hand. -/
namespace Go.Proofs.YtabfhdmcljdjhaaGreatDoor.Gl
open Go.RowKit
set_option linter.unusedVariables false
set_option linter.unusedSimpArgs false

abbrev fyt : ByteArray := ⟨#[120, 32, 60, 61, 32, 49]⟩
abbrev fzt : ByteArray := ⟨#[120, 32, 61, 32, 61, 32, 49]⟩
theorem tw {t : Tk} {k v q : Nat} {x : ByteArray} (h : (match t with | .word k' y v' q' => k' == k && y.toList == x.toList && v' == v && q' == q | _ => false) = true) : t = .word k x v q := by
  split at h
  · simp only [Bool.and_eq_true, beq_iff_eq] at h
    obtain ⟨⟨⟨h1, h2⟩, h3⟩, h4⟩ := h
    rw [h1, toList_inj h2, h3, h4]
  · cases h
theorem tb {t : Tk} (h : (match t with | .blank => true | _ => false) = true) : t = .blank := by
  cases t with
  | blank => rfl
  | bad e => cases h
  | word _ _ _ _ => cases h
abbrev wx : Wd := ⟨0, ⟨#[120]⟩, 0, 0⟩
abbrev wle : Wd := ⟨2, ⟨#[60, 61]⟩, 0, 2⟩
abbrev w1 : Wd := ⟨1, emp, 1, 5⟩
abbrev weq (p : Nat) : Wd := ⟨2, ⟨#[61]⟩, 0, p⟩
theorem fy_lx : Lx fyt 0 [wx, wle, ⟨1, emp, 1, 5⟩] none :=
  .word (by decide) (tw (q := 1) (by decide +kernel)) (.blank (by decide) (tb (by decide +kernel)) (.word (by decide) (tw (q := 4) (by decide +kernel)) (.blank (by decide) (tb (by decide +kernel)) (.word (by decide) (tw (q := 6) (by decide +kernel)) (.done (by decide))))))
theorem fz_lx : Lx fzt 0 [wx, weq 2, weq 4, ⟨1, emp, 1, 6⟩] none :=
  .word (by decide) (tw (q := 1) (by decide +kernel)) (.blank (by decide) (tb (by decide +kernel)) (.word (by decide) (tw (q := 3) (by decide +kernel)) (.blank (by decide) (tb (by decide +kernel)) (.word (by decide) (tw (q := 5) (by decide +kernel)) (.blank (by decide) (tb (by decide +kernel)) (.word (by decide) (tw (q := 7) (by decide +kernel)) (.done (by decide))))))))
/-- a term that is one word -/
theorem pt_one {ws : List Wd} {p : Nat} {t : Tm} (h : PT ws .fac p (.ok t (p + 1))) (h1 : ¬ IsS ws (p + 1) kStar) (h2 : ¬ IsS ws (p + 1) kPlus) (h3 : ¬ IsS ws (p + 1) kMinus) : PT ws .sum p (.ok t (p + 1)) :=
  .sum (.prod h (.prodStop h1)) (.sumStop h2 h3)
theorem noS_end {ws : List Wd} {p : Nat} {x : ByteArray} (h : ws.length ≤ p) : ¬ IsS ws p x := fun k => by have := k.lt; omega
abbrev fyF : Fm := .mk 9 emp 0 [.mk 1 0 ⟨#[120]⟩ [], .mk 0 1 emp []] []
theorem fy_whole : Fin6 [wx, wle, ⟨1, emp, 1, 5⟩] (.ok fyF 3) := by
  have n0 : IsN [wx, wle, ⟨1, emp, 1, 5⟩] 0 ⟨#[120]⟩ := ⟨_, rfl, rfl, rfl⟩
  have s1 : IsS [wx, wle, ⟨1, emp, 1, 5⟩] 1 ⟨#[60, 61]⟩ := ⟨_, rfl, rfl, rfl⟩
  have d2 : IsD [wx, wle, ⟨1, emp, 1, 5⟩] 2 1 := ⟨_, rfl, rfl, rfl⟩
  have a : PA [wx, wle, ⟨1, emp, 1, 5⟩] 0 (.ok fyF 3) := .rel (i := 0) (pt_one (.name n0) (s1.ne (by decide)) (s1.ne (by decide)) (s1.ne (by decide))) (by decide) s1 (pt_one (.num d2) (noS_end (by decide)) (noS_end (by decide)) (noS_end (by decide)))
  exact .ok (lev_un (by decide) (.atom (fun x _ => n0.noS) a) (noj_end (by decide)))
theorem nm_x : nmB ⟨#[120]⟩ = true := (fy_lx.goodw (by decide)) 0 _ ⟨_, rfl, rfl, rfl⟩
theorem fy_chk : chk nmB fyF = 0 := by
  have hx := nm_x
  simp [chk, meterF, meterFL, meterTL, meterT, St.node, wellF, wellT, wF, wT, hx]
theorem fz_bad : Fin6 [wx, weq 2, weq 4, ⟨1, emp, 1, 6⟩] (.bad 71 2) := by
  have n0 : IsN [wx, weq 2, weq 4, ⟨1, emp, 1, 6⟩] 0 ⟨#[120]⟩ := ⟨_, rfl, rfl, rfl⟩
  have s1 : IsS [wx, weq 2, weq 4, ⟨1, emp, 1, 6⟩] 1 ⟨#[61]⟩ := ⟨_, rfl, rfl, rfl⟩
  have s2 : IsS [wx, weq 2, weq 4, ⟨1, emp, 1, 6⟩] 2 ⟨#[61]⟩ := ⟨_, rfl, rfl, rfl⟩
  have a : PA [wx, weq 2, weq 4, ⟨1, emp, 1, 6⟩] 0 (.bad 71 2) := .bad2 (pt_one (.name n0) (s1.ne (by decide)) (s1.ne (by decide)) (s1.ne (by decide))) (rels_in 4 (by decide)) s1 (.sumBad (.prodBad (.none (s2.ne (by decide)) (s2.ne (by decide)) (fun x => s2.nn) (fun n => s2.nd))))
  exact .bad (.levBad (by decide) (.levBad (by decide) (.levBad (by decide) (.levBad (by decide) (.un (.atomBad (fun x _ => n0.noS) a))))))
theorem fy_an : An fyt (some fyF) 0 0 0 := .ok (by decide) fy_lx fy_whole fy_chk
theorem fz_an : An fzt none 71 4 4 := by
  have := An.bad (s := fzt) (by decide) fz_lx fz_bad
  have h1 : pcB fzt [wx, weq 2, weq 4, ⟨1, emp, 1, 6⟩] 2 = 4 := rfl
  have h2 : pcC fzt [wx, weq 2, weq 4, ⟨1, emp, 1, 6⟩] 2 = 4 := by show cnt (fzt.extract 0 4) = 4; decide +kernel
  rw [h1, h2] at this
  exact this
theorem fy_at (w : World) (hS : Sg w) : Calls Tryz.prog 5 #[.string fyt] w fun e w' => ∃ g of ct a2 c2, e = .returned (.tuple #[.agg #[.int .i64 9, .string emp, .int .i64 0, .slice (some ⟨g, of, none⟩) 2 ct, .slice a2 0 c2], fau 0 0 0]) ∧ 2 ≤ ct ∧ ct ≤ 9223372036854775807 ∧ g < w'.heap.size ∧ w'.cell? ⟨g, of + 2, none⟩ = some (.string ⟨#[120]⟩) ∧ w'.cell? ⟨g, of + 5, none⟩ = some (.int .i64 1) ∧ Below w.heap.size w w' := by
  refine (formula_any fy_an w hS (by decide)).mono ?_
  rintro e w' ⟨v, rfl, ⟨op, xs, m, bo, n1, c1, lo, ln, lc, rfl, _, hs⟩, hB⟩
  have h := hs _ rfl
  rw [RdFn] at h
  obtain ⟨h0, h1, h2, h3, ⟨ao, cap, h4, h5, h6, h7⟩, a2, c2, h8, _, _, _⟩ := h
  rw [RdTnL, RdTnL] at h7
  obtain ⟨⟨g, of, d0, d1, d2, d3, e1, _, hg, _, _, k2, _, hr⟩, ⟨g', of', e0, e1', e2, e3, e1'', _, hg', _, j1, _, _, hr'⟩, _⟩ := h7
  rw [RdTn] at hr hr'
  obtain ⟨_, _, rfl, _⟩ := hr
  obtain ⟨_, rfl, _⟩ := hr'
  rw [e1] at e1''
  cases e1''
  cases h0; cases h1; cases h2
  rw [h4, h8, e1]
  exact ⟨g, of, cap, a2, c2, rfl, h5, h6, hg, by simpa using k2, by simpa using j1, hB⟩
theorem fz_at (w : World) (hS : Sg w) : Calls Tryz.prog 5 #[.string fzt] w fun e w' => e = .returned (.tuple #[nilF, fau 71 4 4]) ∧ Below w.heap.size w w' := by
  refine (formula_any fz_an w hS (by decide)).mono ?_
  rintro e w' ⟨v, rfl, ⟨op, xs, m, bo, n1, c1, lo, ln, lc, _, hn, _⟩, hB⟩
  rw [hn rfl]
  exact ⟨rfl, hB⟩
set_option maxRecDepth 100000 in
set_option maxHeartbeats 2000000 in
theorem lfixed_at (w : World) (hS : Sg w) : Calls Tryz.prog 7 #[] w fun e w' => e = .returned (.bool true) ∧ Below w.heap.size w w' := by
  go_enter Tryz.func7, Tryz.ntmps7
  go_wp2_with (fail)
  refine (fy_at _ hS).mono ?_
  rintro e w1 ⟨g, of, ct, a2, c2, rfl, hc1, hc2, hg, q2, q5, hB1⟩
  have hX1 := (rb_new w1 #[.int .i64 9, .string emp, .int .i64 0, .slice (some ⟨g, of, none⟩) 2 ct, .slice a2 0 c2] 26).keep (bal _ (.cells #[.int .i64 0, .int .i64 0, .int .i64 0] 31))
  have hX2 : Rb ((w1.alloc (.cells #[.int .i64 9, .string emp, .int .i64 0, .slice (some ⟨g, of, none⟩) 2 ct, .slice a2 0 c2] 26)).alloc (.cells #[.int .i64 0, .int .i64 0, .int .i64 0] 31)) (w1.heap.size + 1) #[.int .i64 0, .int .i64 0, .int .i64 0] 31 := by
    have := rb_new (w1.alloc (.cells #[.int .i64 9, .string emp, .int .i64 0, .slice (some ⟨g, of, none⟩) 2 ct, .slice a2 0 c2] 26)) #[.int .i64 0, .int .i64 0, .int .i64 0] 31
    rwa [World.size_alloc] at this
  have hS2 := ((hS.below hB1).alloc (.cells #[.int .i64 9, .string emp, .int .i64 0, .slice (some ⟨g, of, none⟩) 2 ct, .slice a2 0 c2] 26)).alloc (.cells #[.int .i64 0, .int .i64 0, .int .i64 0] 31)
  go_wp2_with (fail)
  refine (fz_at _ hS2).mono ?_
  rintro e w3 ⟨rfl, hB3⟩
  have hs3 := hB3.size
  rw [World.size_alloc, World.size_alloc] at hs3
  have hY1 := ((hX1.keep hB3).keep (bal w3 (.cells zF 26))).keep (bal _ (.cells #[.int .i64 71, .int .i64 4, .int .i64 4] 31))
  have hY2 := ((hX2.keep hB3).keep (bal w3 (.cells zF 26))).keep (bal _ (.cells #[.int .i64 71, .int .i64 4, .int .i64 4] 31))
  have hBx : Below w1.heap.size w1 ((w3.alloc (.cells zF 26)).alloc (.cells #[.int .i64 71, .int .i64 4, .int .i64 4] 31)) := bta (bta (bt2 (bta (bal w1 _) _) hB3) _) _
  have p2 := (hBx.cell (p := ⟨g, of + 2, none⟩) hg).trans q2
  have p5 := (hBx.cell (p := ⟨g, of + 5, none⟩) hg).trans q5
  obtain ⟨a0, -⟩ := txcell hY1 0 _ rfl
  obtain ⟨a3, -⟩ := txcell hY1 3 _ rfl
  obtain ⟨b0, -⟩ := txcell hY2 0 _ rfl
  obtain ⟨b1, -⟩ := txcell hY2 1 _ rfl
  obtain ⟨b2, -⟩ := txcell hY2 2 _ rfl
  go_wp2
  go_ret
  exact ⟨rfl, bta (bta (bt2 (bta (bta hB1 _) _) hB3) _) _⟩
end Go.Proofs.YtabfhdmcljdjhaaGreatDoor.Gl
/- A term's text as one side of an atom. -/
namespace Go.Proofs.YtabfhdmcljdjhaaGreatDoor.Gl
open Go.RowKit
set_option linter.unusedVariables false
set_option linter.unusedSimpArgs false

abbrev zeq : ByteArray := ⟨#[48, 32, 61, 32]⟩
abbrev kZero : ByteArray := ⟨#[48]⟩
abbrev kEqs : ByteArray := ⟨#[61]⟩
theorem tk_zero : tok kZero 0 = .word 1 emp 0 kZero.size := tk_of (by decide +kernel)
theorem tk_eqs : tok kEqs 0 = .word 2 kEqs 0 kEqs.size := tk_of (by decide +kernel)
abbrev eqW (a : List Wd) : List Wd := [(⟨1, emp, 0, 0⟩ : Wd), ⟨2, kEqs, 0, 2⟩] ++ a.map (Wd.move 4)
theorem eq_lx {s : ByteArray} {a : List Wd} (h : Lx s 0 a none) : Lx (zeq ++ s) 0 (eqW a) none := by
  have hz : AtT (zeq ++ s) 0 zeq := (AtT.self zeq).left
  have hs : AtT (zeq ++ s) 4 s := (AtT.right (A := zeq) (AtT.self s)).to (by decide)
  have b1 : bt (zeq ++ s) 1 = 32 := by have := hz.bt (i := 1) (by decide); rw [Nat.zero_add] at this; rw [this]; decide +kernel
  have b3 : bt (zeq ++ s) 3 = 32 := by have := hz.bt (i := 3) (by decide); rw [Nat.zero_add] at this; rw [this]; decide +kernel
  have h0 : AtT (zeq ++ s) 0 kZero := (hz.cut (x := kZero) (i := 0) (by decide) (by decide +kernel)).to (by omega)
  have h2 : AtT (zeq ++ s) 2 kEqs := (hz.cut (x := kEqs) (i := 2) (by decide) (by decide +kernel)).to (by omega)
  have hsz : 4 ≤ (zeq ++ s).size := by have := hs.size; omega
  have hl : Lx (zeq ++ s) 4 (a.map (Wd.move 4)) none := by
    have hS : Sim (zeq ++ s) 4 s := ⟨hs.size, hs.byte, .inl (by rw [ByteArray.size_append]; rfl)⟩
    have := (Lx.sim hS h (Nat.zero_le _)).1 [] none rfl (.done (by rw [ByteArray.size_append]; exact Nat.le_refl _))
    simpa using this
  have s0 : SimK 32 (zeq ++ s) 0 kZero := h0.simk sep_blank (by rw [Nat.zero_add]; exact b1)
  have s2 : SimK 32 (zeq ++ s) 2 kEqs := h2.simk sep_blank b3
  exact Lx.wordk s0 (by decide) tk_zero (Lx.blanks (by show 1 < _; omega) b1 (Lx.wordk s2 (by decide) tk_eqs (Lx.blanks (by show 3 < _; omega) b3 hl)))
theorem eq_ag {a : List Wd} : Ag a (eqW a) 2 a.length False False := by
  have hn : ∀ i, (eqW a).length ≤ 2 + i ↔ a.length ≤ i := fun i => by simp only [eqW, List.length_append, List.length_map, List.length_cons, List.length_nil]; omega
  refine ⟨fun i hi => ⟨fun x => ?_, fun x => ?_, fun n => ?_⟩, fun x _ h => ?_, fun x h => ?_, fun n h => ?_, fun h => h.elim⟩
  · exact (isS_map (k := 4)).symm.trans (isS_right (l := [(⟨1, emp, 0, 0⟩ : Wd), ⟨2, kEqs, 0, 2⟩])).symm
  · exact (isN_map (k := 4)).symm.trans (isN_right (l := [(⟨1, emp, 0, 0⟩ : Wd), ⟨2, kEqs, 0, 2⟩])).symm
  · exact (isD_map (k := 4)).symm.trans (isD_right (l := [(⟨1, emp, 0, 0⟩ : Wd), ⟨2, kEqs, 0, 2⟩])).symm
  · have := h.lt; have := (hn a.length).2 (Nat.le_refl _); omega
  · have := h.lt; have := (hn a.length).2 (Nat.le_refl _); omega
  · have := h.lt; have := (hn a.length).2 (Nat.le_refl _); omega
abbrev atomF (t : Tm) : Fm := .mk 13 emp 0 [.mk 0 0 emp [], t] []
theorem eq_whole {a : List Wd} {t : Tm} (h : PT a .sum 0 (.ok t a.length)) : Fin6 (eqW a) (.ok (atomF t) (eqW a).length) := by
  have hl : (eqW a).length = 2 + a.length := by simp only [eqW, List.length_append, List.length_map, List.length_cons, List.length_nil]
  have k := h.ag (vs := eqW a) (d := 2) eq_ag
  have d0 : IsD (eqW a) 0 0 := ⟨_, rfl, rfl, rfl⟩
  have s1 : IsS (eqW a) 1 kEqs := ⟨_, rfl, rfl, rfl⟩
  have at' : PA (eqW a) 0 (.ok (atomF t) (2 + a.length)) := .rel (i := 4) (pt_one (.num d0) (s1.ne (by decide)) (s1.ne (by decide)) (s1.ne (by decide))) (by decide) s1 k
  rw [hl]
  have := Fin6.ok (ws := eqW a) (f := atomF t) (by rw [Whole, hl]; exact lev_un (by decide) (.atom (fun x _ => d0.noS) at') (noj_end (by omega)))
  rwa [hl] at this
/-- what parse answers to the atom -/
theorem eq_an {s : ByteArray} {t : Tm} {c b k : Nat} (h : AnT s (some t) c b k) : (c = 0 ∧ b = 0 ∧ k = 0 ∧ chkT nmB t = 0) ∧ ((∃ c', (c' = 70 ∨ c' = 73 ∨ c' = 72) ∧ An (zeq ++ s) none c' 0 0) ∨ An (zeq ++ s) (some (atomF t)) 0 0 0) := by
  cases h with
  | @ok a f q hs hl hf hc =>
    refine ⟨⟨rfl, rfl, rfl, hc⟩, ?_⟩
    by_cases hz : (zeq ++ s).size ≤ 4096
    · cases hf with
      | ok h =>
        have hw := eq_whole h
        have hlx := eq_lx hl
        by_cases h0 : chk nmB (atomF t) = 0
        · exact .inr (.ok hz hlx hw h0)
        · refine .inl ⟨_, ?_, .many hz hlx hw h0⟩
          have hall := ((chkT_iff nmB t).1 hc).2.2
          have hmd : (atomF t).all (wellT nmB) (wellF nmB) = true := by
            cases hw with
            | ok hh => exact PF.made (hlx.goodw hz) hh
          rcases chk_made hmd with e | e | e
          · exact absurd e h0
          · exact .inr (.inr e)
          · exact .inr (.inl e)
    · exact .inl ⟨70, .inl rfl, .long (by omega)⟩
end Go.Proofs.YtabfhdmcljdjhaaGreatDoor.Gl
/- The document's sameTerm. -/
namespace Go.Proofs.YtabfhdmcljdjhaaGreatDoor.Gl
open Go.RowKit
set_option linter.unusedVariables false

noncomputable def eqB {α : Type} (x y : α) : Bool := @decide (x = y) (Classical.propDecidable _)
theorem eqB_iff {α : Type} (x y : α) : eqB x y = true ↔ x = y := by
  unfold eqB
  exact @decide_eq_true_iff _ (Classical.propDecidable _)
theorem eqB_no {α : Type} {x y : α} (h : ¬ x = y) : eqB x y = false := by
  cases hb : eqB x y with
  | false => rfl
  | true => exact absurd ((eqB_iff x y).1 hb) h
theorem eqB_yes {α : Type} {x y : α} (h : x = y) : eqB x y = true := (eqB_iff x y).2 h
theorem list_ext {α : Type} {a b : List α} (hl : a.length = b.length) (h : ∀ j (ha : j < a.length) (hb : j < b.length), a[j] = b[j]) : a = b := List.ext_getElem hl h
theorem two_boxes (w : World) (A B : Array Value) (t t' : TypeId) : (∀ o, ((w.alloc (.cells A t)).alloc (.cells B t')).cell? ⟨w.heap.size, o, none⟩ = A[o]?) ∧ (∀ o, ((w.alloc (.cells A t)).alloc (.cells B t')).cell? ⟨w.heap.size + 1, o, none⟩ = B[o]?) :=
  ⟨fun o => (World.cell?_of_block (heap_alloc_old _ _ (show w.heap.size < (w.alloc (.cells A t)).heap.size by simp))).trans (cell_newO _ _ _ _ rfl o), fun o => cell_newO _ _ _ _ (by simp) o⟩
theorem ten_kept {w w' : World} {B1 B2 g g' : Nat} {o1 o2 o3 o4 o5 o6 o7 o8 o9 oA : Nat} {x1 x2 x3 x4 x5 x6 x7 x8 x9 xA : Value} (hb : Below w.heap.size w w') (h1 : B1 < w.heap.size) (h2 : B2 < w.heap.size) (hg : g < w.heap.size) (hg' : g' < w.heap.size)
    (h : w.cell? ⟨B1, o1, none⟩ = some x1 ∧ w.cell? ⟨B2, o2, none⟩ = some x2 ∧ w.cell? ⟨g, o3, none⟩ = some x3 ∧ w.cell? ⟨g, o4, none⟩ = some x4 ∧ w.cell? ⟨g, o5, none⟩ = some x5 ∧ w.cell? ⟨g, o6, none⟩ = some x6 ∧ w.cell? ⟨g', o7, none⟩ = some x7 ∧ w.cell? ⟨g', o8, none⟩ = some x8 ∧ w.cell? ⟨g', o9, none⟩ = some x9 ∧ w.cell? ⟨g', oA, none⟩ = some xA) :
    w'.cell? ⟨B1, o1, none⟩ = some x1 ∧ w'.cell? ⟨B2, o2, none⟩ = some x2 ∧ w'.cell? ⟨g, o3, none⟩ = some x3 ∧ w'.cell? ⟨g, o4, none⟩ = some x4 ∧ w'.cell? ⟨g, o5, none⟩ = some x5 ∧ w'.cell? ⟨g, o6, none⟩ = some x6 ∧ w'.cell? ⟨g', o7, none⟩ = some x7 ∧ w'.cell? ⟨g', o8, none⟩ = some x8 ∧ w'.cell? ⟨g', o9, none⟩ = some x9 ∧ w'.cell? ⟨g', oA, none⟩ = some xA := by
  obtain ⟨hc, _⟩ := bcell hb
  obtain ⟨a1, a2, a3, a4, a5, a6, a7, a8, a9, aA⟩ := h
  exact ⟨(hc _ _ h1).trans a1, (hc _ _ h2).trans a2, (hc _ _ hg).trans a3, (hc _ _ hg).trans a4, (hc _ _ hg).trans a5, (hc _ _ hg).trans a6, (hc _ _ hg').trans a7, (hc _ _ hg').trans a8, (hc _ _ hg').trans a9, (hc _ _ hg').trans aA⟩
set_option maxHeartbeats 4000000 in
theorem rsameT_at (W : World) : ∀ t u v v' w, TmV W t v → TmV W u v' → Below W.heap.size W w →
    Calls Tryz.prog 21 #[v, v'] w fun e w' => e = .returned (.bool (eqB t u)) ∧ Below w.heap.size w w' := by
  refine Tm.ind (fun o n x a ih u v v' w hv hv' hW => ?_)
  cases u with
  | mk o' n' x' a' =>
  obtain ⟨c0, c1, c2, c3, rfl, hr⟩ := hv
  rw [RdT] at hr
  obtain ⟨rfl, rfl, rfl, hbd, ao, cap, rfl, hlc, hcz, hL⟩ := hr
  obtain ⟨c0, c1, c2, c3, rfl, hr⟩ := hv'
  rw [RdT] at hr
  obtain ⟨rfl, rfl, rfl, hbd', ao', cap', rfl, hlc', hcz', hL'⟩ := hr
  have IH : Hid (∀ t ∈ a, ∀ u v v' w, TmV W t v → TmV W u v' → Below W.heap.size W w → Calls Tryz.prog 21 #[v, v'] w fun e w' => e = .returned (.bool (eqB t u)) ∧ Below w.heap.size w w') := ih
  clear ih
  have hWs := hW.size
  by_cases h1 : o = o'
  rotate_left
  · have k1 : (o == o') = false := by simpa using h1
    have HE : Hid (eqB (Tm.mk o n x a) (.mk o' n' x' a') = false) := eqB_no (fun e => h1 (by cases e; rfl))
    clear IH
    go_enter Tryz.func21, Tryz.ntmps21
    go_wp2
    go_ret
    exact ⟨retb HE.out.symm, bta (bta0 _ _) _⟩
  by_cases h2 : n = n'
  rotate_left
  · have k2 : (n == n') = false := by simpa using h2
    have HE : Hid (eqB (Tm.mk o n x a) (.mk o' n' x' a') = false) := eqB_no (fun e => h2 (by cases e; rfl))
    subst h1
    clear IH
    go_enter Tryz.func21, Tryz.ntmps21
    go_wp2
    go_ret
    exact ⟨retb HE.out.symm, bta (bta0 _ _) _⟩
  by_cases h3 : x = x'
  rotate_left
  · have k3 : (x.toList == x'.toList) = false := by
      cases hb : (x.toList == x'.toList) with
      | false => rfl
      | true => exact absurd (toList_inj (by simpa using hb)) h3
    have HE : Hid (eqB (Tm.mk o n x a) (.mk o' n' x' a') = false) := eqB_no (fun e => h3 (by cases e; rfl))
    subst h1; subst h2
    clear IH
    go_enter Tryz.func21, Tryz.ntmps21
    go_wp2
    go_ret
    exact ⟨retb HE.out.symm, bta (bta0 _ _) _⟩
  by_cases h4 : a.length = a'.length
  rotate_left
  · have k4 : ((a.length : Int) == (a'.length : Int)) = false := by simp; omega
    have HE : Hid (eqB (Tm.mk o n x a) (.mk o' n' x' a') = false) := eqB_no (fun e => h4 (by cases e; rfl))
    have k3 : (x.toList == x.toList) = true := by simp
    subst h1; subst h2; subst h3
    clear IH
    go_enter Tryz.func21, Tryz.ntmps21
    go_wp2
    go_ret
    exact ⟨retb HE.out.symm, bta (bta0 _ _) _⟩
  subst h1; subst h2; subst h3
  have k3 : (x.toList == x.toList) = true := by simp
  obtain ⟨m, hm⟩ : ∃ m, a.length = m := ⟨_, rfl⟩
  have hm' : a'.length = m := by omega
  rw [hm] at hlc
  rw [hm'] at hlc'
  have HY : Hid ((∀ j (ha : j < a.length) (hb : j < a'.length), a[j] = a'[j]) → eqB (Tm.mk o n x a) (.mk o n x a') = true) := fun h => eqB_yes (by rw [list_ext (by omega) h])
  have HNo : Hid (∀ j (ha : j < a.length) (hb : j < a'.length), ¬ a[j] = a'[j] → eqB (Tm.mk o n x a) (.mk o n x a') = false) := fun j ha hb h => eqB_no (fun e => h (by cases e; rfl))
  generalize eqB (Tm.mk o n x a) (.mk o n x a') = q at *
  obtain ⟨t1, t2⟩ := two_boxes w #[.int .i64 o, .int .i64 n, .string x, .slice ao m cap] #[.int .i64 o, .int .i64 n, .string x, .slice ao' m cap'] 43 43
  have hb1 : Below w.heap.size w ((w.alloc (.cells #[.int .i64 o, .int .i64 n, .string x, .slice ao m cap] 43)).alloc (.cells #[.int .i64 o, .int .i64 n, .string x, .slice ao' m cap'] 43)) := bta (bta0 _ _) _
  have hs2 : ((w.alloc (.cells #[.int .i64 o, .int .i64 n, .string x, .slice ao m cap] 43)).alloc (.cells #[.int .i64 o, .int .i64 n, .string x, .slice ao' m cap'] 43)).heap.size = w.heap.size + 2 := by simp
  generalize hW2 : (w.alloc (.cells #[.int .i64 o, .int .i64 n, .string x, .slice ao m cap] 43)).alloc (.cells #[.int .i64 o, .int .i64 n, .string x, .slice ao' m cap'] 43) = W2 at t1 t2 hb1 hs2
  rw [hm, hm']
  go_enter Tryz.func21, Tryz.ntmps21
  go_wp2
  clear hW2
  go_loopw [5] (fun i wr => ∃ k : Nat, k ≤ m ∧ i = .int .i64 k ∧ Below W2.heap.size W2 wr ∧ Hid (∀ j (ha : j < a.length) (hb : j < a'.length), j < k → a[j] = a'[j])) (fun i _ => m - (intOf i).toNat)
  case atStart => exact ⟨0, Nat.zero_le _, rfl, Below.refl _ _, fun j _ _ h => by omega⟩
  case round =>
    obtain ⟨k, hk, rfl, hBr, HA⟩ := hrel
    have b1 := (hBr.cell (p := ⟨w.heap.size, 3, none⟩) (by simp; omega)).trans (t1 3)
    have b2 := (hBr.cell (p := ⟨w.heap.size + 1, 3, none⟩) (by simp; omega)).trans (t2 3)
    have hbw := bt2 hb1 hBr
    have hWr : Below W.heap.size W wr := hW.trans (hbw.mono hWs)
    by_cases hlt : k < m
    · have hka : k < a.length := by omega
      have hkb : k < a'.length := by omega
      obtain ⟨g, of, d0, d1, d2, d3, rfl, hg, q0, q1, q2, q3, hrd⟩ := hL.get k hka
      obtain ⟨g', of', d0', d1', d2', d3', rfl, hg', q0', q1', q2', q3', hrd'⟩ := hL'.get k hkb
      rw [Nat.zero_add] at q0 q1 q2 q3 q0' q1' q2' q3'
      have RC : Hid (∀ w, Below W.heap.size W w → Calls Tryz.prog 21 #[.agg #[d0, d1, d2, d3], .agg #[d0', d1', d2', d3']] w fun e w' => e = .returned (.bool (eqB a[k] a'[k])) ∧ Below w.heap.size w w') := fun w h => IH.out a[k] (List.getElem_mem hka) a'[k] _ _ w ⟨_, _, _, _, rfl, hrd⟩ ⟨_, _, _, _, rfl, hrd'⟩ h
      have p0 := (hWr.cell (p := ⟨g, of + k * 4, none⟩) hg).trans q0
      have p1 := (hWr.cell (p := ⟨g, of + k * 4 + 1, none⟩) hg).trans q1
      have p2 := (hWr.cell (p := ⟨g, of + k * 4 + 2, none⟩) hg).trans q2
      have p3 := (hWr.cell (p := ⟨g, of + k * 4 + 3, none⟩) hg).trans q3
      have p0' := (hWr.cell (p := ⟨g', of' + k * 4, none⟩) hg').trans q0'
      have p1' := (hWr.cell (p := ⟨g', of' + k * 4 + 1, none⟩) hg').trans q1'
      have p2' := (hWr.cell (p := ⟨g', of' + k * 4 + 2, none⟩) hg').trans q2'
      have p3' := (hWr.cell (p := ⟨g', of' + k * 4 + 3, none⟩) hg').trans q3'
      have s0 := And.intro b1 (And.intro b2 (And.intro p0 (And.intro p1 (And.intro p2 (And.intro p3 (And.intro p0' (And.intro p1' (And.intro p2' p3'))))))))
      have hgr : g < wr.heap.size := Nat.lt_of_lt_of_le hg hWr.size
      have hgr' : g' < wr.heap.size := Nat.lt_of_lt_of_le hg' hWr.size
      have hwr : w.heap.size + 1 < wr.heap.size := by have := hBr.size; omega
      have i3 : (0 : Int) ≤ (k : Int) := by omega
      have i4 : (k : Int) < (m : Int) := by omega
      have HT : Hid (eqB a[k] a'[k] = true → ∀ j (ha : j < a.length) (hb : j < a'.length), j < k + 1 → a[j] = a'[j]) := fun h j ha hb hj => by
        rcases Nat.lt_succ_iff_lt_or_eq.1 hj with hj | rfl
        · exact HA.out j ha hb hj
        · exact (eqB_iff _ _).1 h
      have HF : Hid (eqB a[k] a'[k] = false → q = false) := fun h => HNo.out k hka hkb (fun e => by rw [eqB_yes e] at h; cases h)
      generalize eqB a[k] a'[k] = r at *
      clear IH HA HNo HY q0 q1 q2 q3 q0' q1' q2' q3' hrd hrd' b1 b2 p0 p1 p2 p3 p0' p1' p2' p3'
      cases r with
      | true =>
        have HT' := HT.out rfl
        have HT2 : Hid _ := HT'
        clear HT HF HT'
        go_wp2
        go_region_held3 (fun w' => w'.cell? ⟨w.heap.size, 3, none⟩ = some (.slice (some ⟨g, of, none⟩) m cap) ∧ w'.cell? ⟨w.heap.size + 1, 3, none⟩ = some (.slice (some ⟨g', of', none⟩) m cap') ∧ w'.cell? ⟨g, of + k * 4, none⟩ = some d0 ∧ w'.cell? ⟨g, of + k * 4 + 1, none⟩ = some d1 ∧ w'.cell? ⟨g, of + k * 4 + 2, none⟩ = some d2 ∧ w'.cell? ⟨g, of + k * 4 + 3, none⟩ = some d3 ∧ w'.cell? ⟨g', of' + k * 4, none⟩ = some d0' ∧ w'.cell? ⟨g', of' + k * 4 + 1, none⟩ = some d1' ∧ w'.cell? ⟨g', of' + k * 4 + 2, none⟩ = some d2' ∧ w'.cell? ⟨g', of' + k * 4 + 3, none⟩ = some d3') (first | exact s0 | exact s2) ((go_at_call 21; refine (RC.out _ hWr.drew).mono ?_; rintro e w2 ⟨rfl, hB2⟩; have hB2' : Below wr.heap.size wr w2 := (Below.refl _ _).drew.trans hB2; have s2 := ten_kept hB2' (by omega) (by omega) hgr hgr' s0))
        go_wp2
        go_roundw
        case rel => exact ⟨k + 1, by omega, by go_num, bt2 hBr hB2', HT2⟩
        case measure => simp [intOf]; omega
      | false =>
        have HF2 : Hid (q = false) := HF.out rfl
        clear HT HF
        go_wp2
        go_region_held3 (fun w' => w'.cell? ⟨w.heap.size, 3, none⟩ = some (.slice (some ⟨g, of, none⟩) m cap) ∧ w'.cell? ⟨w.heap.size + 1, 3, none⟩ = some (.slice (some ⟨g', of', none⟩) m cap') ∧ w'.cell? ⟨g, of + k * 4, none⟩ = some d0 ∧ w'.cell? ⟨g, of + k * 4 + 1, none⟩ = some d1 ∧ w'.cell? ⟨g, of + k * 4 + 2, none⟩ = some d2 ∧ w'.cell? ⟨g, of + k * 4 + 3, none⟩ = some d3 ∧ w'.cell? ⟨g', of' + k * 4, none⟩ = some d0' ∧ w'.cell? ⟨g', of' + k * 4 + 1, none⟩ = some d1' ∧ w'.cell? ⟨g', of' + k * 4 + 2, none⟩ = some d2' ∧ w'.cell? ⟨g', of' + k * 4 + 3, none⟩ = some d3') (first | exact s0 | exact s2) ((go_at_call 21; refine (RC.out _ hWr.drew).mono ?_; rintro e w2 ⟨rfl, hB2⟩; have hB2' : Below wr.heap.size wr w2 := (Below.refl _ _).drew.trans hB2; have s2 := ten_kept hB2' (by omega) (by omega) hgr hgr' s0))
        go_wp2
        go_ret
        exact ⟨retb HF2.out.symm, bt2 hbw hB2'⟩
    · have hlt' : decide (k < m) = false := decide_eq_false hlt
      have HE : Hid (q = true) := HY.out (fun j ha hb => HA.out j ha hb (by omega))
      clear IH HA HNo HY
      go_wp2
      go_ret
      exact ⟨retb HE.out.symm, hbw⟩
end Go.Proofs.YtabfhdmcljdjhaaGreatDoor.Gl
