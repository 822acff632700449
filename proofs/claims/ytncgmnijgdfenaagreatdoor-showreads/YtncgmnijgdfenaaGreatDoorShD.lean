/- The text of a tree, as pieces; they stand right: plain mathematics. -/
import Derived.Test.YtncgmnijgdfenaaGreatDoorShA
import Derived.Test.YtncgmnijgdfenaaGreatDoorPcP
import Derived.Test.YtncgmnijgdfenaaGreatDoorTrB
namespace Go.Proofs.YtncgmnijgdfenaaGreatDoor.Gl
set_option linter.unusedVariables false
set_option linter.unusedSimpArgs false

/- a name is a word -/
theorem name_word {x : ByteArray} (h : IsName x) : 0 < x.size ∧ tok x 0 = .word 0 x 0 x.size ∧ bt x 0 ≠ 62 := by
  obtain ⟨⟨n, hn, h1, h16, hm⟩, hr⟩ := h
  have h0 := hm 0 (by omega)
  have hp0 : 0 < x.size := h0.1
  have hst : stB ((rdS x 0).1 : Nat) = true := h0.2.2.2 rfl
  have hok : (rdS x 0).2.2 = true := h0.2.1
  have hbl : blB ((rdS x 0).1 : Nat) = false := by
    rw [st_eq] at hst
    unfold laB grB at hst
    unfold blB
    simp only [Bool.or_eq_true, decide_eq_true_eq] at hst
    rw [decide_eq_false_iff_not]
    omega
  have hrun : ∀ m, m ≤ n → RunTo reN x (pos x (n - m)) x.size := by
    intro m
    induction m with
    | zero => intro _; rw [Nat.sub_zero, hn.1]; exact .nil _
    | succ m ih =>
      intro hle
      have hj := hm (n - (m + 1)) (by omega)
      refine .cons hj.1 hj.2.1 hj.2.2.1 ?_
      have := ih (by omega)
      rw [show n - m = n - (m + 1) + 1 by omega, pos_succ] at this
      exact this
  have hall := run_all (by have := hrun n (Nat.le_refl _); rwa [Nat.sub_self, pos_zero] at this)
  have hc : cnt x = n := cnt_one (cnt_cnt x) hn
  refine ⟨hp0, ?_, fun e => ?_⟩
  · unfold tok
    rw [hbl, hok, hst, hall, extract_all, if_neg (by decide), if_neg (by decide), if_pos rfl, hr, if_neg (by decide), hc, if_neg (by omega)]
  · have := rd_one x 0 (by omega)
    rw [this, e] at hst
    exact absurd hst (by decide +kernel)
theorem dec_bt (n : Nat) : 0 < (dec n).size ∧ bt (dec n) 0 ≠ 62 := by
  obtain ⟨h1, h2, _⟩ := dec_all n
  have hz := dec_size n
  refine ⟨by omega, ?_⟩
  unfold dec
  rw [bt_list _ 0 h1]
  have := h2 _ (List.getElem_mem h1)
  omega
/- pieces that stand right -/
def SepH (l : List Pc) : Prop := ∀ c, hdP l = some c → Sep c
theorem sep_qs : Sep 93 := ⟨by decide, by decide +kernel, by decide, by decide +kernel⟩
theorem seph_nil : SepH [] := fun c h => by cases h
theorem seph_b (l : List Pc) : SepH (.b :: l) := fun c h => by
  have e : (32 : Nat) = c := Option.some.inj h
  rw [← e]; exact sep_blank
theorem seph_qs (l : List Pc) : SepH (.s kQs :: l) := fun c h => by
  have e : (93 : Nat) = c := Option.some.inj h
  rw [← e]; exact sep_qs
theorem seph_shut (l : List Pc) : SepH (.s kShut :: l) := fun c h => by
  have e : (41 : Nat) = c := Option.some.inj h
  rw [← e]; exact sep_shut
theorem seph_dot (l : List Pc) : SepH (.s kDot :: l) := fun c h => by
  have e : (46 : Nat) = c := Option.some.inj h
  rw [← e]; exact sep_dot
theorem rt_sg {x : ByteArray} {l : List Pc} (h : 0 < x.size ∧ tok x 0 = .word 2 x 0 x.size) (hl : RtP l) : RtP (sgP x :: .b :: l) := ⟨⟨h.1, h.2, seph_b l⟩, trivial, hl⟩
theorem rt_s {x : ByteArray} {l : List Pc} (h : x ∈ lones) (hm : x = kMinus → hdP l ≠ some 62) (hl : RtP l) : RtP (.s x :: l) := ⟨⟨h, hm⟩, hl⟩
theorem sg_tok {x : ByteArray} (h : (decide (0 < x.size) && (tok x 0).is2 x) = true) : 0 < x.size ∧ tok x 0 = .word 2 x 0 x.size := by
  rw [Bool.and_eq_true, decide_eq_true_eq] at h
  exact ⟨h.1, Tk.of_is2 h.2⟩
theorem sg_tsg (o : Int) : 0 < (tsg o).size ∧ tok (tsg o) 0 = .word 2 (tsg o) 0 (tsg o).size := by
  unfold tsg
  split
  · exact sg_tok (by decide +kernel)
  · split <;> exact sg_tok (by decide +kernel)
theorem sg_jsg (o : Int) : 0 < (jsg o).size ∧ tok (jsg o) 0 = .word 2 (jsg o) 0 (jsg o).size := by
  unfold jsg sgOf
  split <;> exact sg_tok (by decide +kernel)
theorem sg_qsg (o : Int) : 0 < (qsg o).size ∧ tok (qsg o) 0 = .word 2 (qsg o) 0 (qsg o).size := by
  unfold qsg
  split <;> exact sg_tok (by decide +kernel)
theorem sg_rel {i : Nat} (hi : i < 7) : 0 < (rels.getD i emp).size ∧ tok (rels.getD i emp) 0 = .word 2 (rels.getD i emp) 0 (rels.getD i emp).size := by
  have : ∀ i, i < 7 → (decide (0 < (rels.getD i emp).size) && (tok (rels.getD i emp) 0).is2 (rels.getD i emp)) = true := by decide +kernel
  exact sg_tok (this i hi)
/-- a row that may stand ahead of whatever ends words, and begins with no > -/
def Good (l : List Pc) : Prop := ∀ r, RtP r → SepH r → RtP (l ++ r) ∧ hdP (l ++ r) ≠ some 62
theorem good_brk {b : Bool} {l : List Pc} (h : Good l) : Good (brkP b l) := by
  unfold brkP
  split
  · intro r hr hs
    rw [List.cons_append, List.append_assoc]
    have := h (.s kQs :: r) (rt_s (by simp) (fun e => absurd e (by decide)) hr) (seph_qs r)
    exact ⟨rt_s (by simp) (fun e => absurd e (by decide)) this.1, fun e => absurd (Option.some.inj e) (by decide)⟩
  · exact h
theorem good_num {n : Int} (h : n ≤ 9223372036854775807) : Good [numP n] := fun r hr hs =>
  ⟨⟨⟨(dec_bt n.toNat).1, tok_dec (by omega), hs⟩, hr⟩, fun e => (dec_bt n.toNat).2 (Option.some.inj e)⟩
theorem good_nam {x : ByteArray} (h : IsName x) : Good [namP x] := fun r hr hs =>
  ⟨⟨⟨(name_word h).1, (name_word h).2.1, hs⟩, hr⟩, fun e => (name_word h).2.2 (Option.some.inj e)⟩
theorem good_two {l m : List Pc} {x : ByteArray} (hx : 0 < x.size ∧ tok x 0 = .word 2 x 0 x.size) (hl : Good l) (hm : Good m) : Good (l ++ .b :: sgP x :: .b :: m) := fun r hr hs => by
  rw [List.append_assoc]
  have h2 := (hm r hr hs).1
  have h3 : RtP (.b :: sgP x :: .b :: (m ++ r)) := ⟨trivial, rt_sg hx h2⟩
  exact hl _ h3 (seph_b _)
theorem good_tm : ∀ t : Tm, t.all (wellT nmB) = true → t.all nT = true → Good (pcT t) := by
  refine Tm.ind (fun o n x a ih h hn => ?_)
  rcases well_tm (all_own h) with ⟨rfl, h0, rfl, rfl⟩ | ⟨rfl, rfl, hx, rfl⟩ | ⟨rfl, rfl, rfl, t, rfl⟩ | ⟨ho, rfl, rfl, t, u, rfl⟩
  · rw [pc_num]
    exact good_num (of_decide_eq_true (all_own hn))
  · rw [pc_nam]
    exact good_nam ((nmB_iff x).1 hx)
  · rw [pc_neg]
    have hg : Good (heldP 2 0 (t.op, pcT t)) := good_brk (ih t (by simp) (all_one h).2 (all_one hn).2)
    intro r hr hs
    obtain ⟨h1, h2⟩ := hg r hr hs
    exact ⟨rt_s (by simp) (fun _ => h2) h1, fun e => absurd (Option.some.inj e) (by decide)⟩
  · rw [pc_two ho]
    exact good_two (sg_tsg o) (good_brk (ih t (by simp) (all_two h).2.1 (all_two hn).2.1)) (good_brk (ih u (by simp) (all_two h).2.2 (all_two hn).2.2))
end Go.Proofs.YtncgmnijgdfenaaGreatDoor.Gl
/- The text of a formula, as pieces; they stand right: plain mathematics. -/
namespace Go.Proofs.YtncgmnijgdfenaaGreatDoor.Gl
set_option linter.unusedVariables false
set_option linter.unusedSimpArgs false

theorem good_end {x : ByteArray} (h : 0 < x.size ∧ tok x 0 = .word 2 x 0 x.size) (hb : bt x 0 ≠ 62) : Good [sgP x] := fun r hr hs => ⟨⟨⟨h.1, h.2, hs⟩, hr⟩, fun e => hb (Option.some.inj e)⟩
theorem good_pre {x : ByteArray} {l : List Pc} (h : 0 < x.size ∧ tok x 0 = .word 2 x 0 x.size) (hb : bt x 0 ≠ 62) (hl : Good l) : Good (sgP x :: .b :: l) := fun r hr hs => ⟨rt_sg h (hl r hr hs).1, fun e => hb (Option.some.inj e)⟩
theorem sg_rsg {o : Int} (h1 : 9 ≤ o) (h2 : o ≤ 15) : 0 < (rsg o).size ∧ tok (rsg o) 0 = .word 2 (rsg o) 0 (rsg o).size := sg_rel (by omega)
theorem good_fm : ∀ f : Fm, f.all (wellT nmB) (wellF nmB) = true → f.all nT nF = true → Good (pcF f) := by
  refine Fm.ind (fun o x m t a ih h hn => ?_)
  obtain ⟨h1, h2, h3⟩ := fll_own h
  obtain ⟨n1, n2, n3⟩ := fll_own hn
  cases well_fm h1 with
  | leaf ho =>
    rcases ho with rfl | rfl
    · rw [fc_tru]; exact good_end (sg_tok (by decide +kernel)) (by decide)
    · rw [fc_fls]; exact good_end (sg_tok (by decide +kernel)) (by decide)
  | @not f =>
    rw [fc_not]
    exact good_pre (sg_tok (by decide +kernel)) (by decide) (ih f (by simp) (fl_one h3) (fl_one n3))
  | @pair o f g ho1 ho2 =>
    rw [fc_pair ho1 ho2]
    intro r hr hs
    have hg := ih g (by simp) (fl_two h3).2 (fl_two n3).2 (.s kShut :: r) (rt_s (by simp) (fun e => absurd e (by decide)) hr) (seph_shut r)
    have hf := ih f (by simp) (fl_two h3).1 (fl_two n3).1 (.b :: sgP (jsg o) :: .b :: (pcF g ++ .s kShut :: r)) ⟨trivial, rt_sg (sg_jsg o) hg.1⟩ (seph_b _)
    have e : Pc.s kOpen :: (pcF f ++ .b :: sgP (jsg o) :: .b :: (pcF g ++ [.s kShut])) ++ r = .s kOpen :: (pcF f ++ .b :: sgP (jsg o) :: .b :: (pcF g ++ .s kShut :: r)) := by simp
    rw [e]
    exact ⟨rt_s (by simp) (fun e => absurd e (by decide)) hf.1, fun e => absurd (Option.some.inj e) (by decide)⟩
  | @qu o x f ho hx =>
    rw [fc_qu ho]
    intro r hr hs
    have hf := ih f (by simp) (fl_one h3) (fl_one n3) r hr hs
    have hd : RtP (.s kDot :: .b :: (pcF f ++ r)) := rt_s (by simp) (fun e => absurd e (by decide)) ⟨trivial, hf.1⟩
    have hnm := good_nam ((nmB_iff x).1 hx) _ hd (seph_dot _)
    exact ⟨rt_sg (sg_qsg o) hnm.1, fun e => by
      have e := Option.some.inj e
      have : bt (qsg o) 0 ≠ 62 := by unfold qsg; split <;> decide
      exact this e⟩
  | @rel o t u ho1 ho2 =>
    rw [fc_rel ho1 ho2]
    exact good_two (sg_rsg ho1 (by omega)) (good_tm t (tl_two h2).1 (tl_two n2).1) (good_tm u (tl_two h2).2 (tl_two n2).2)
  | @cong m t u hm =>
    rw [fc_cong]
    exact good_two (sg_rsg (by omega) (by omega)) (good_tm t (tl_two h2).1 (tl_two n2).1) (good_two (sg_tok (by decide +kernel)) (good_tm u (tl_two h2).2 (tl_two n2).2) (good_num (of_decide_eq_true n1)))
/-- the words of a right formula's text -/
theorem fm_words {f : Fm} (h : f.all (wellT nmB) (wellF nmB) = true) (hn : f.all nT nF = true) : Lx (shF f) 0 (wdsP 0 (pcF f)) none := by
  have := (good_fm f h hn [] trivial seph_nil).1
  rw [List.append_nil] at this
  exact cat_words this
theorem tm_words {t : Tm} (h : t.all (wellT nmB) = true) (hn : t.all nT = true) : Lx (shT t) 0 (wdsP 0 (pcT t)) none := by
  have := (good_tm t h hn [] trivial seph_nil).1
  rw [List.append_nil] at this
  exact cat_words this
end Go.Proofs.YtncgmnijgdfenaaGreatDoor.Gl
/- What rows of parts are as formulas: plain mathematics. -/
namespace Go.Proofs.YtncgmnijgdfenaaGreatDoor.Gl
set_option linter.unusedVariables false
set_option linter.unusedSimpArgs false

def Pt.cnt : Pt → Nat
  | .b => 0
  | .w _ _ => 1
  | .br _ a => a.length + 2
def nW : List Pt → Nat
  | [] => 0
  | p :: l => p.cnt + nW l
theorem words_len : ∀ (l : List Pt) (d : Nat), (wordsOf d l).length = nW l := by
  intro l
  induction l with
  | nil => intro d; rfl
  | cons p l ih =>
    intro d
    rw [wordsOf, List.length_append, ih, nW]
    congr 1
    cases p <;> simp [Pt.words, Pt.cnt]
def lenL : List Pt → Nat
  | [] => 0
  | p :: l => p.len + lenL l
theorem words_app : ∀ (l m : List Pt) (d : Nat), wordsOf d (l ++ m) = wordsOf d l ++ wordsOf (d + lenL l) m := by
  intro l
  induction l with
  | nil => intro m d; simp [wordsOf, lenL]
  | cons p l ih => intro m d; simp only [List.cons_append, wordsOf, lenL, ih, List.append_assoc, Nat.add_assoc]
theorem pt_br {s : ByteArray} {a : List Wd} {f : Fm} (l1 l2 : List Pt) (h : Whole a f) : PF (wordsOf 0 (l1 ++ .br s a :: l2)) .un (nW l1) (.ok (.f f) (nW l1 + (a.length + 2))) := by
  have u := un_br (pre := wordsOf 0 l1) (post := wordsOf (0 + lenL l1 + (Pt.br s a).len) l2) (k := 0 + lenL l1 + 1) (wo := ⟨2, kOpen, 0, 0 + lenL l1⟩) (wc := ⟨2, kShut, 0, 0 + lenL l1 + 1 + s.size⟩) ⟨rfl, rfl⟩ ⟨rfl, rfl⟩ h
  rw [words_len] at u
  have e : wordsOf 0 (l1 ++ .br s a :: l2) = wordsOf 0 l1 ++ (⟨2, kOpen, 0, 0 + lenL l1⟩ : Wd) :: (a.map (Wd.move (0 + lenL l1 + 1)) ++ (⟨2, kShut, 0, 0 + lenL l1 + 1 + s.size⟩ : Wd) :: wordsOf (0 + lenL l1 + (Pt.br s a).len) l2) := by
    rw [words_app, wordsOf]
    simp [Pt.words]
  rw [e]
  exact u
theorem pt_at (k : Nat) (x : ByteArray) (l1 l2 : List Pt) : ∃ w : Wd, (wordsOf 0 (l1 ++ .w k x :: l2))[nW l1]? = some w ∧ w.kind = k ∧ w.text = x := by
  rw [words_app, wordsOf]
  have := words_len l1 0
  rw [List.getElem?_append_right (by omega), this, Nat.sub_self]
  exact ⟨⟨k, x, 0, 0 + lenL l1⟩, rfl, rfl, rfl⟩
theorem pt_s (x : ByteArray) (l1 l2 : List Pt) : IsS (wordsOf 0 (l1 ++ .w 2 x :: l2)) (nW l1) x := pt_at 2 x l1 l2
theorem pt_n (x : ByteArray) (l1 l2 : List Pt) : IsN (wordsOf 0 (l1 ++ .w 0 x :: l2)) (nW l1) x := pt_at 0 x l1 l2
/- whole formulas out of parts: over any words -/
theorem wh_one {W : List Wd} {f : Fm} {e : Nat} (u : PF W .un 0 (.ok (.f f) e)) (he : W.length = e) : Whole W f := by
  unfold Whole
  rw [he]
  exact lev_un (by omega) u (noj_end (by omega))
theorem wh_two {W : List Wd} {n : Nat} (hn : n < 4) {f g : Fm} {q e : Nat} (u1 : PF W .un 0 (.ok (.f f) q)) (s : IsS W q (sgOf n)) (u2 : PF W .un (q + 1) (.ok (.f g) e)) (he : W.length = e) : Whole W (fPair (opOf n) f g) := by
  unfold Whole
  rw [he]
  have l1 : PF W (.lev (n + 1)) 0 (.ok (.f f) q) := lev_un (by omega) u1 (noj_above hn s)
  have l2 : PF W (.lev (n + 1)) (q + 1) (.ok (.f g) e) := lev_un (by omega) u2 (noj_end (by omega))
  exact lev_up (Nat.zero_le _) (by omega) (lev_two hn l1 s l2 (noS_of (by omega))) (noj_end (by omega))
where noS_of {W : List Wd} {p : Nat} {x : ByteArray} (h : W.length ≤ p) : ¬ IsS W p x := fun k => by have := k.lt; omega
/- of each text of the laws -/
theorem two_row {n : Nat} (hn : n < 4) {s t : ByteArray} {a b : List Wd} {f g : Fm} (ha : Whole a f) (hb : Whole b g) (bl : List Pt) (hbl : bl = [] ∨ bl = [.b]) : Whole (wordsOf 0 (.br s a :: (bl ++ .w 2 (sgOf n) :: (bl ++ [.br t b])))) (fPair (opOf n) f g) := by
  have hz : nW bl = 0 := by rcases hbl with rfl | rfl <;> rfl
  have happ : ∀ l m : List Pt, nW (l ++ m) = nW l + nW m := by
    intro l m
    induction l with
    | nil => simp [nW]
    | cons p l ih => simp [nW, ih]; omega
  have u1 := pt_br (s := s) [] (bl ++ .w 2 (sgOf n) :: (bl ++ [.br t b])) ha
  have s1 := pt_s (sgOf n) (.br s a :: bl) (bl ++ [.br t b])
  have u2 := pt_br (s := t) (.br s a :: (bl ++ .w 2 (sgOf n) :: bl)) [] hb
  have e1 : nW (.br s a :: bl) = a.length + 2 := by simp [nW, Pt.cnt, hz]
  have e2 : nW (.br s a :: (bl ++ .w 2 (sgOf n) :: bl)) = a.length + 2 + 1 := by simp [nW, Pt.cnt, hz, happ]
  rw [e1] at s1
  rw [e2] at u2
  have l1 : (.br s a :: bl) ++ Pt.w 2 (sgOf n) :: (bl ++ [.br t b]) = .br s a :: (bl ++ .w 2 (sgOf n) :: (bl ++ [.br t b])) := by simp
  have l2 : (.br s a :: (bl ++ Pt.w 2 (sgOf n) :: bl)) ++ [.br t b] = .br s a :: (bl ++ .w 2 (sgOf n) :: (bl ++ [.br t b])) := by simp
  rw [l1] at s1
  rw [l2] at u2
  simp only [nW, Nat.zero_add, List.nil_append] at u1
  refine wh_two hn u1 s1 u2 ?_
  rw [words_len]
  simp [nW, Pt.cnt, hz, happ] <;> omega
theorem not_row {s : ByteArray} {a : List Wd} {f : Fm} (ha : Whole a f) : Whole (wordsOf 0 [.w 2 kNot, .b, .br s a]) (fNot f) := by
  have s1 := pt_s kNot [] [.b, .br s a]
  have u2 := pt_br (s := s) [.w 2 kNot, .b] [] ha
  have e2 : nW [.w 2 kNot, .b] = 0 + 1 := rfl
  rw [e2] at u2
  refine wh_one (PF.not s1 u2) ?_
  rw [words_len]
  simp [nW, Pt.cnt] <;> omega
theorem ex_row {s : ByteArray} {a : List Wd} {f : Fm} (ha : Whole a f) : Whole (wordsOf 0 [.w 2 kEx, .b, .w 0 kX, .w 2 kComma, .b, .w 0 kY, .w 2 kDot, .b, .br s a]) (fQ 7 kX (fQ 7 kY f)) := by
  have s1 := pt_s kEx [] [.b, .w 0 kX, .w 2 kComma, .b, .w 0 kY, .w 2 kDot, .b, .br s a]
  have n1 := pt_n kX [.w 2 kEx, .b] [.w 2 kComma, .b, .w 0 kY, .w 2 kDot, .b, .br s a]
  have s2 := pt_s kComma [.w 2 kEx, .b, .w 0 kX] [.b, .w 0 kY, .w 2 kDot, .b, .br s a]
  have n2 := pt_n kY [.w 2 kEx, .b, .w 0 kX, .w 2 kComma, .b] [.w 2 kDot, .b, .br s a]
  have s3 := pt_s kDot [.w 2 kEx, .b, .w 0 kX, .w 2 kComma, .b, .w 0 kY] [.b, .br s a]
  have u2 := pt_br (s := s) [.w 2 kEx, .b, .w 0 kX, .w 2 kComma, .b, .w 0 kY, .w 2 kDot, .b] [] ha
  have s3' : IsS (wordsOf 0 [.w 2 kEx, .b, .w 0 kX, .w 2 kComma, .b, .w 0 kY, .w 2 kDot, .b, .br s a]) 4 kDot := s3
  refine wh_one (PF.qu (o := 7) (by simp) s1 (.more n1 s2 (.last n2 (s3'.ne (by decide)))) s3' u2) ?_
  rw [words_len]
  simp [nW, Pt.cnt] <;> omega
theorem br_row {s : ByteArray} {a : List Wd} {f : Fm} (ha : Whole a f) : Whole (wordsOf 0 [.br s a]) f := by
  have u := pt_br (s := s) [] [] ha
  simp only [nW, Nat.zero_add, List.nil_append] at u
  refine wh_one u ?_
  rw [words_len]
  simp [nW, Pt.cnt]
end Go.Proofs.YtncgmnijgdfenaaGreatDoor.Gl
/- What the pieces of a tree are read as: plain mathematics. -/
namespace Go.Proofs.YtncgmnijgdfenaaGreatDoor.Gl
set_option linter.unusedVariables false
set_option linter.unusedSimpArgs false

def nC (l : List Pc) : Nat := (corP l).length
theorem nc_app (l m : List Pc) : nC (l ++ m) = nC l + nC m := by unfold nC; rw [cor_app, List.length_append]
theorem nc_b (l : List Pc) : nC (.b :: l) = nC l := rfl
theorem nc_w (k : Nat) (x t : ByteArray) (v : Nat) (l : List Pc) : nC (.w k x t v :: l) = nC l + 1 := rfl
theorem nc_s (x : ByteArray) (l : List Pc) : nC (.s x :: l) = nC l + 1 := rfl
theorem nc_nil : nC [] = 0 := rfl
abbrev StdP (W : List Wd) (p : Nat) (l : List Pc) : Prop := Std W p (corP l)
theorem stdp_app {W : List Wd} {p : Nat} {l m : List Pc} : StdP W p (l ++ m) ↔ StdP W p l ∧ StdP W (p + nC l) m := by
  unfold StdP nC
  rw [cor_app]
  exact std_app
theorem stdp_b {W : List Wd} {p : Nat} {l : List Pc} : StdP W p (.b :: l) ↔ StdP W p l := Iff.rfl
theorem stdp_s {W : List Wd} {p : Nat} {x : ByteArray} {l : List Pc} (h : StdP W p (.s x :: l)) : IsS W p x ∧ StdP W (p + 1) l := ⟨Std.s h, h.2⟩
theorem stdp_sg {W : List Wd} {p : Nat} {x : ByteArray} {l : List Pc} (h : StdP W p (sgP x :: l)) : IsS W p x ∧ StdP W (p + 1) l := ⟨Std.s h, h.2⟩
theorem stdp_n {W : List Wd} {p : Nat} {x : ByteArray} {l : List Pc} (h : StdP W p (namP x :: l)) : IsN W p x ∧ StdP W (p + 1) l := ⟨Std.n h, h.2⟩
theorem stdp_d {W : List Wd} {p : Nat} {n : Int} {l : List Pc} (h : StdP W p (numP n :: l)) : IsD W p n.toNat ∧ StdP W (p + 1) l := ⟨Std.d h, h.2⟩
/-- a term stands from p to q, as strong as s -/
structure Rdg (W : List Wd) (s : Nat) (t : Tm) (p q : Nat) : Prop where
  fac : s = 2 → PT W .fac p (.ok t q)
  prod : 1 ≤ s → ∀ r, PT W (.prodL t) q r → PT W .prod p r
  sum : ¬ IsS W q kStar → ∀ r, PT W (.sumL t) q r → PT W .sum p r
theorem Rdg.of {W : List Wd} {t : Tm} {p q : Nat} (h : PT W .fac p (.ok t q)) (s : Nat) : Rdg W s t p q :=
  ⟨fun _ => h, fun _ r k => .prod h k, fun hs r k => .sum (.prod h (.prodStop hs)) k⟩
theorem Rdg.ofp {W : List Wd} {t : Tm} {p q : Nat} (h : ∀ r, PT W (.prodL t) q r → PT W .prod p r) : Rdg W 1 t p q :=
  ⟨fun e => (by cases e), fun _ => h, fun hs r k => .sum (h _ (.prodStop hs)) k⟩
def StopW (W : List Wd) (q : Nat) : Prop := ¬ IsS W q kStar ∧ ¬ IsS W q kPlus ∧ ¬ IsS W q kMinus
theorem StopW.of {W : List Wd} {q : Nat} {x : ByteArray} (h : IsS W q x) (hx : x ≠ kStar ∧ x ≠ kPlus ∧ x ≠ kMinus) : StopW W q := ⟨fun k => hx.1 (h.one k), fun k => hx.2.1 (h.one k), fun k => hx.2.2 (h.one k)⟩
theorem StopW.end {W : List Wd} {q : Nat} (h : W.length ≤ q) : StopW W q := ⟨fun k => by have := k.lt; omega, fun k => by have := k.lt; omega, fun k => by have := k.lt; omega⟩
theorem Rdg.done {W : List Wd} {s : Nat} {t : Tm} {p q : Nat} (h : Rdg W s t p q) (hs : StopW W q) : PT W .sum p (.ok t q) := h.sum hs.1 _ (.sumStop hs.2.1 hs.2.2)
theorem rdg_held {W : List Wd} {v : Int} {pl : Nat} {t : Tm} {p : Nat} (h : StdP W p (heldP v pl (t.op, pcT t))) (ih : ∀ p, StdP W p (pcT t) → Rdg W (strT t.op) t p (p + nC (pcT t))) :
    Rdg W (if needB t.op v pl = true then 2 else strT t.op) t p (p + nC (heldP v pl (t.op, pcT t))) := by
  unfold heldP brkP at h ⊢
  dsimp only at h ⊢
  by_cases hb : needB t.op v pl = true
  · rw [if_pos hb] at h ⊢
    rw [if_pos hb]
    obtain ⟨h1, h2⟩ := stdp_s h
    obtain ⟨h3, h4⟩ := stdp_app.1 h2
    have h5 := (stdp_s h4).1
    have hd := (ih (p + 1) h3).done (StopW.of h5 (by decide))
    rw [nc_s, nc_app, nc_s, nc_nil, show p + (nC (pcT t) + (0 + 1) + 1) = p + 1 + nC (pcT t) + 1 by omega]
    exact Rdg.of (.sq h1 hd h5) _
  · rw [if_neg hb] at h ⊢
    rw [if_neg hb]
    exact ih p h
theorem lvl2 (o v : Int) (pl : Nat) (h : v = 2 ∨ (v = 5 ∧ pl = 1)) : (if needB o v pl = true then 2 else strT o) = 2 := by
  by_cases hb : needB o v pl = true
  · rw [if_pos hb]
  · rw [if_neg hb]
    unfold needB at hb
    simp only [Bool.or_eq_true, Bool.and_eq_true, decide_eq_true_eq] at hb
    unfold strT
    rw [if_neg (by omega), if_neg (by omega)]
theorem lvl1 (o v : Int) (pl : Nat) (h : v = 5 ∨ pl = 1) : 1 ≤ (if needB o v pl = true then 2 else strT o) := by
  by_cases hb : needB o v pl = true
  · rw [if_pos hb]; decide
  · rw [if_neg hb]
    unfold needB at hb
    simp only [Bool.or_eq_true, Bool.and_eq_true, decide_eq_true_eq] at hb
    unfold strT
    rw [if_neg (by omega)]
    split <;> decide
theorem rdg_tm {nm : ByteArray → Bool} {W : List Wd} : ∀ t : Tm, t.all (wellT nm) = true → ∀ p, StdP W p (pcT t) → Rdg W (strT t.op) t p (p + nC (pcT t)) := by
  refine Tm.ind (fun o n x a ih h p hs => ?_)
  rcases well_tm (all_own h) with ⟨rfl, h0, rfl, rfl⟩ | ⟨rfl, rfl, hx, rfl⟩ | ⟨rfl, rfl, rfl, t, rfl⟩ | ⟨ho, rfl, rfl, t, u, rfl⟩
  · rw [pc_num] at hs ⊢
    have h1 := (stdp_d hs).1
    have : PT W .fac p (.ok (.mk 0 (n.toNat : Int) emp []) (p + 1)) := .num h1
    rw [Int.toNat_of_nonneg h0] at this
    exact Rdg.of this _
  · rw [pc_nam] at hs ⊢
    exact Rdg.of (.name (stdp_n hs).1) _
  · rw [pc_neg] at hs ⊢
    obtain ⟨h1, h2⟩ := stdp_s hs
    have hg := rdg_held h2 (ih t (by simp) (all_one h).2)
    have hf := hg.fac (lvl2 _ _ _ (.inl rfl))
    rw [nc_s, show p + (nC (heldP 2 0 (t.op, pcT t)) + 1) = p + 1 + nC (heldP 2 0 (t.op, pcT t)) by omega]
    exact Rdg.of (.neg h1 hf) _
  · rw [pc_two ho] at hs ⊢
    obtain ⟨h1, h2⟩ := stdp_app.1 hs
    obtain ⟨h3, h4⟩ := stdp_sg (stdp_b.1 h2)
    have h5 := stdp_b.1 h4
    have ht := rdg_held h1 (ih t (by simp) (all_two h).2.1)
    have hu := rdg_held h5 (ih u (by simp) (all_two h).2.2)
    rw [nc_app, nc_b, nc_w, nc_b, show p + (nC (heldP o 0 (t.op, pcT t)) + (nC (heldP o 1 (u.op, pcT u)) + 1)) = p + nC (heldP o 0 (t.op, pcT t)) + 1 + nC (heldP o 1 (u.op, pcT u)) by omega]
    generalize p + nC (heldP o 0 (t.op, pcT t)) = q at *
    generalize q + 1 + nC (heldP o 1 (u.op, pcT u)) = q' at *
    rcases ho with rfl | rfl | rfl
    · have h3' : IsS W q kPlus := h3
      refine ⟨fun e => (by cases e), fun e => (by have e : 1 ≤ 0 := e; omega), fun hst r k => ?_⟩
      have hp : PT W .prod (q + 1) (.ok u q') := hu.prod (lvl1 _ _ _ (.inr rfl)) _ (.prodStop hst)
      exact ht.sum (fun k => absurd (h3'.one k) (by decide)) _ (.add h3' hp k)
    · have h3' : IsS W q kMinus := h3
      refine ⟨fun e => (by cases e), fun e => (by have e : 1 ≤ 0 := e; omega), fun hst r k => ?_⟩
      have hp : PT W .prod (q + 1) (.ok u q') := hu.prod (lvl1 _ _ _ (.inr rfl)) _ (.prodStop hst)
      exact ht.sum (fun k => absurd (h3'.one k) (by decide)) _ (.sub h3' hp k)
    · have h3' : IsS W q kStar := h3
      refine Rdg.ofp (fun r k => ?_)
      have hf := hu.fac (lvl2 _ _ _ (.inr ⟨rfl, rfl⟩))
      exact ht.prod (lvl1 _ _ _ (.inl rfl)) _ (.prodL h3' hf k)
theorem tm_head {nm : ByteArray → Bool} : ∀ t : Tm, t.all (wellT nm) = true → ∃ c l, corP (pcT t) = c :: l ∧ (c.1 = 0 ∨ c.1 = 1 ∨ c.2.1 = kMinus ∨ c.2.1 = kSq) := by
  refine Tm.ind (fun o n x a ih h => ?_)
  rcases well_tm (all_own h) with ⟨rfl, h0, rfl, rfl⟩ | ⟨rfl, rfl, hx, rfl⟩ | ⟨rfl, rfl, rfl, t, rfl⟩ | ⟨ho, rfl, rfl, t, u, rfl⟩
  · rw [pc_num]; exact ⟨_, _, rfl, .inr (.inl rfl)⟩
  · rw [pc_nam]; exact ⟨_, _, rfl, .inl rfl⟩
  · rw [pc_neg]; exact ⟨_, _, rfl, .inr (.inr (.inl rfl))⟩
  · rw [pc_two ho, cor_app]
    unfold heldP brkP
    dsimp only
    split
    · exact ⟨_, _, rfl, .inr (.inr (.inr rfl))⟩
    · obtain ⟨c, l, e, hc⟩ := ih t (by simp) (all_two h).2.1
      rw [e]
      exact ⟨_, _, rfl, hc⟩
theorem no_first : ∀ y ∈ [kNot, kEx, kAll, kOpen, kTrue, kFalse], y ≠ kMinus ∧ y ≠ kSq := by decide
theorem tm_noun {nm : ByteArray → Bool} {W : List Wd} {p : Nat} {t : Tm} (h : t.all (wellT nm) = true) (hs : StdP W p (pcT t)) : noUn W p := by
  obtain ⟨c, l, e, hc⟩ := tm_head t h
  unfold StdP at hs
  rw [e] at hs
  obtain ⟨⟨w, e1, e2⟩, _⟩ := hs
  rintro x hx ⟨w', k1, k2, k3⟩
  have hno := no_first x hx
  rw [e1] at k1
  cases k1
  subst e2
  have hc' : w.kind = 0 ∨ w.kind = 1 ∨ w.text = kMinus ∨ w.text = kSq := hc
  rcases hc' with e | e | e | e
  · omega
  · omega
  · exact absurd (k3.symm.trans e) hno.1
  · exact absurd (k3.symm.trans e) hno.2
theorem rel_stop : ∀ i, i < 7 → rels.getD i emp ≠ kStar ∧ rels.getD i emp ≠ kPlus ∧ rels.getD i emp ≠ kMinus := by decide +kernel
theorem j_stop : ∀ n, n < 4 → sgOf n ≠ kStar ∧ sgOf n ≠ kPlus ∧ sgOf n ≠ kMinus := by decide +kernel
theorem shut_noj {W : List Wd} {n q : Nat} (h : IsS W q kShut) : NoJ W n q := fun m _ hm k => by
  have : ∀ m, m < 4 → kShut ≠ sgOf m := by decide +kernel
  exact this m hm (h.one k)
theorem rd_fm {nm : ByteArray → Bool} {W : List Wd} : ∀ f : Fm, f.all (wellT nm) (wellF nm) = true → ∀ p, StdP W p (pcF f) → StopW W (p + nC (pcF f)) → PF W .un p (.ok (.f f) (p + nC (pcF f))) := by
  refine Fm.ind (fun o x m t a ih h p hs hst => ?_)
  obtain ⟨h1, h2, h3⟩ := fll_own h
  cases well_fm h1 with
  | leaf ho =>
    rcases ho with rfl | rfl
    · rw [fc_tru] at hs ⊢; exact .tru (stdp_sg hs).1
    · rw [fc_fls] at hs ⊢; exact .fls (stdp_sg hs).1
  | @not f =>
    rw [fc_not] at hs hst ⊢
    obtain ⟨k1, k2⟩ := stdp_sg hs
    rw [nc_w, nc_b, show p + (nC (pcF f) + 1) = p + 1 + nC (pcF f) by omega] at hst ⊢
    exact .not k1 (ih f (by simp) (fl_one h3) _ (stdp_b.1 k2) hst)
  | @pair o f g ho1 ho2 =>
    rw [fc_pair ho1 ho2] at hs hst ⊢
    obtain ⟨k0, k1⟩ := stdp_s hs
    obtain ⟨k2, k3⟩ := stdp_app.1 k1
    obtain ⟨k4, k5⟩ := stdp_sg (stdp_b.1 k3)
    obtain ⟨k6, k7⟩ := stdp_app.1 (stdp_b.1 k5)
    have k8 := (stdp_s k7).1
    rw [nc_s, nc_app, nc_b, nc_w, nc_b, nc_app, nc_s, nc_nil, show p + (nC (pcF f) + (nC (pcF g) + (0 + 1) + 1) + 1) = p + 1 + nC (pcF f) + 1 + nC (pcF g) + 1 by omega]
    have hn : (6 - o).toNat < 4 := by omega
    have hop : opOf (6 - o).toNat = o := by
      have : o = 3 ∨ o = 4 ∨ o = 5 ∨ o = 6 := by omega
      rcases this with rfl | rfl | rfl | rfl <;> rfl
    have hf := ih f (by simp) (fl_two h3).1 _ k2 (StopW.of k4 (j_stop _ hn))
    have hg := ih g (by simp) (fl_two h3).2 _ k6 (StopW.of k8 (by decide))
    generalize p + 1 + nC (pcF f) = q at *
    generalize q + 1 + nC (pcF g) = q' at *
    have l1 : PF W (.lev ((6 - o).toNat + 1)) (p + 1) (.ok (.f f) q) := lev_un (by omega) hf (noj_above hn k4)
    have l2 : PF W (.lev ((6 - o).toNat + 1)) (q + 1) (.ok (.f g) q') := lev_un (by omega) hg (shut_noj k8)
    have l3 := lev_two hn l1 k4 l2 (shut_noj (n := 0) k8 _ (Nat.zero_le _) hn)
    have l4 := lev_up (Nat.zero_le _) (by omega) l3 (shut_noj k8)
    have := PF.br k0 l4 k8
    rwa [hop] at this
  | @qu o x f ho hx =>
    rw [fc_qu ho] at hs hst ⊢
    obtain ⟨k1, k2⟩ := stdp_sg hs
    obtain ⟨k3, k4⟩ := stdp_n (stdp_b.1 k2)
    obtain ⟨k5, k6⟩ := stdp_s k4
    rw [nc_w, nc_b, nc_w, nc_s, nc_b, show p + (nC (pcF f) + 1 + 1 + 1) = p + 1 + 1 + 1 + nC (pcF f) by omega] at hst ⊢
    have hf := ih f (by simp) (fl_one h3) _ (stdp_b.1 k6) hst
    have hmem : (qsg o, o) ∈ [(kEx, (7 : Int)), (kAll, 8)] := by
      rcases ho with rfl | rfl
      · exact List.mem_cons_self ..
      · exact List.mem_cons_of_mem _ (List.mem_cons_self ..)
    exact PF.qu hmem k1 (.last k3 (fun k => absurd (k5.one k) (by decide))) k5 hf
  | @rel o t u ho1 ho2 =>
    rw [fc_rel ho1 ho2] at hs hst ⊢
    obtain ⟨k1, k2⟩ := stdp_app.1 hs
    obtain ⟨k3, k4⟩ := stdp_sg (stdp_b.1 k2)
    have hnu := tm_noun (tl_two h2).1 k1
    have ht := (rdg_tm t (tl_two h2).1 p k1).done (StopW.of k3 (rel_stop _ (by omega)))
    rw [nc_app, nc_b, nc_w, nc_b, show p + (nC (pcT t) + (nC (pcT u) + 1)) = p + nC (pcT t) + 1 + nC (pcT u) by omega] at hst ⊢
    have hu := (rdg_tm u (tl_two h2).2 _ (stdp_b.1 k4)).done hst
    have := PA.rel (i := (o - 9).toNat) ht (by omega) k3 hu
    rw [show (9 + ((o - 9).toNat : Int)) = o by omega] at this
    exact .atom hnu this
  | @cong m t u hm =>
    rw [fc_cong] at hs hst ⊢
    obtain ⟨k1, k2⟩ := stdp_app.1 hs
    obtain ⟨k3, k4⟩ := stdp_sg (stdp_b.1 k2)
    obtain ⟨k5, k6⟩ := stdp_app.1 (stdp_b.1 k4)
    obtain ⟨k7, k8⟩ := stdp_sg (stdp_b.1 k6)
    have k9 := (stdp_d (stdp_b.1 k8)).1
    have hnu := tm_noun (tl_two h2).1 k1
    have ht := (rdg_tm t (tl_two h2).1 p k1).done (StopW.of k3 (rel_stop _ (by decide)))
    have hu := (rdg_tm u (tl_two h2).2 _ k5).done (StopW.of k7 (by decide))
    rw [nc_app, nc_b, nc_w, nc_b, nc_app, nc_b, nc_w, nc_b, nc_w, nc_nil, show p + (nC (pcT t) + (nC (pcT u) + (0 + 1 + 1) + 1)) = p + nC (pcT t) + 1 + nC (pcT u) + 2 by omega]
    have k3' : IsS W (p + nC (pcT t)) (rels.getD 6 emp) := k3
    have := PA.cong ht k3' hu k7 k9 (by omega)
    rw [show ((m.toNat : Nat) : Int) = m by omega] at this
    exact .atom hnu this
/-- the words of a right formula's text are that formula, whole -/
theorem fm_whole {nm : ByteArray → Bool} {f : Fm} (h : f.all (wellT nm) (wellF nm) = true) : Whole (wdsP 0 (pcF f)) f := by
  have hs : StdP (wdsP 0 (pcF f)) 0 (pcF f) := by
    have := std_all (wdsP 0 (pcF f))
    rwa [wds_core] at this
  have hl : (wdsP 0 (pcF f)).length = 0 + nC (pcF f) := by
    unfold nC
    rw [← wds_core (pcF f) 0, List.length_map, Nat.zero_add]
  exact wh_one (rd_fm f h 0 hs (StopW.end (by omega))) hl
theorem tm_whole {nm : ByteArray → Bool} {t : Tm} (h : t.all (wellT nm) = true) : PT (wdsP 0 (pcT t)) .sum 0 (.ok t (wdsP 0 (pcT t)).length) := by
  have hs : StdP (wdsP 0 (pcT t)) 0 (pcT t) := by
    have := std_all (wdsP 0 (pcT t))
    rwa [wds_core] at this
  have hl : (wdsP 0 (pcT t)).length = 0 + nC (pcT t) := by
    unfold nC
    rw [← wds_core (pcT t) 0, List.length_map, Nat.zero_add]
  rw [hl]
  exact (rdg_tm t h 0 hs).done (StopW.end (by omega))
end Go.Proofs.YtncgmnijgdfenaaGreatDoor.Gl
