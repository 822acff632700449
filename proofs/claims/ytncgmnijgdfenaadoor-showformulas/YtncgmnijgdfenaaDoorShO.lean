/- What a tree in memory has; how long its text is. -/
import Derived.Test.YtncgmnijgdfenaaDoorShI
import Derived.Test.YtncgmnijgdfenaaDoorNdX
namespace Go.Proofs.YtncgmnijgdfenaaDoor.Gl
open Go Go.RowKit
set_option linter.unusedVariables false
set_option linter.unusedSimpArgs false

theorem rdt_nums {W : World} : ∀ t c0 c1 c2 c3, RdT W t c0 c1 c2 c3 → t.all nT = true := by
  refine Tm.ind (fun o n x a ih c0 c1 c2 c3 h => ?_)
  rw [RdT] at h
  obtain ⟨-, -, -, hb, ao, cap, -, -, -, hL⟩ := h
  have key : ∀ (l : List Tm) j, (∀ t ∈ l, t ∈ a) → RdTL W l ao j → Tm.allL nT l = true := by
    intro l
    induction l with
    | nil => intro j _ _; rw [Tm.allL]
    | cons t r ihr =>
      intro j hm hr
      rw [RdTL] at hr
      obtain ⟨⟨g, of, d0, d1, d2, d3, -, -, -, -, -, -, hrd⟩, hrest⟩ := hr
      rw [Tm.allL, ih t (hm t (List.mem_cons_self ..)) _ _ _ _ hrd, ihr _ (fun u hu => hm u (List.mem_cons_of_mem _ hu)) hrest]
      rfl
  rw [Tm.all, key a 0 (fun _ h => h) hL, Bool.and_true]
  exact decide_eq_true hb.2.1.2
theorem rdtl_nums {W : World} (ao : Option Addr) : ∀ (l : List Tm) j, RdTL W l ao j → Tm.allL nT l = true := by
  intro l
  induction l with
  | nil => intro j _; rw [Tm.allL]
  | cons t r ihr =>
    intro j hr
    rw [RdTL] at hr
    obtain ⟨⟨g, of, d0, d1, d2, d3, -, -, -, -, -, -, hrd⟩, hrest⟩ := hr
    rw [Tm.allL, rdt_nums t _ _ _ _ hrd, ihr _ hrest]
    rfl
theorem rdf_nums {W : World} : ∀ f c0 c1 c2 c3 c4, RdF W f c0 c1 c2 c3 c4 → f.all nT nF = true := by
  refine Fm.ind (fun o x m t a ih c0 c1 c2 c3 c4 h => ?_)
  rw [RdF] at h
  obtain ⟨-, -, -, hb, ⟨bo, ct, -, -, -, hT⟩, ao, cap, -, -, -, hL⟩ := h
  have key : ∀ (l : List Fm) j, (∀ t ∈ l, t ∈ a) → RdFL W l ao j → Fm.allL nT nF l = true := by
    intro l
    induction l with
    | nil => intro j _ _; rw [Fm.allL]
    | cons t r ihr =>
      intro j hm hr
      rw [RdFL] at hr
      obtain ⟨⟨g, of, d0, d1, d2, d3, d4, -, -, -, -, -, -, -, hrd⟩, hrest⟩ := hr
      rw [Fm.allL, ih t (hm t (List.mem_cons_self ..)) _ _ _ _ _ hrd, ihr _ (fun u hu => hm u (List.mem_cons_of_mem _ hu)) hrest]
      rfl
  rw [Fm.all, rdtl_nums bo t 0 hT, key a 0 (fun _ h => h) hL, Bool.and_true, Bool.and_true]
  exact decide_eq_true hb.2.1.2
/- lengths -/
theorem dec_short : ∀ k n : Nat, n < 10 ^ (k + 1) → (decL n).length ≤ k + 1 := by
  intro k
  induction k with
  | zero => intro n h; rw [dec_lt (by simpa using h)]; simp
  | succ k ih =>
    intro n h
    by_cases h10 : n < 10
    · rw [dec_lt h10]; simp
    · have := ih (n / 10) (by rw [Nat.pow_succ] at h; omega)
      rw [dec_ge h10, List.length_append]
      simp only [List.length_singleton]
      omega
theorem dec_20 {n : Int} (h : n ≤ 9223372036854775807) : (dec n.toNat).size ≤ 20 := by
  rw [dec_size]
  exact dec_short 19 _ (by have : (10 : Nat) ^ (19 + 1) = 100000000000000000000 := by decide
                           omega)
theorem name_short {x : ByteArray} (h : IsName x) : x.size ≤ 64 := by
  obtain ⟨⟨n, hn, h1, h16, hm⟩, hr⟩ := h
  have key : ∀ k, k ≤ n → pos x k ≤ 4 * k := by
    intro k
    induction k with
    | zero => intro _; rw [pos_zero]; omega
    | succ k ih => intro hk; rw [pos_succ]; have := ih (by omega); have := (rd_bd x (pos x k) (hn.2 k (by omega))).2.2; omega
  have := key n (Nat.le_refl _)
  rw [hn.1] at this
  omega
theorem hl_len (v : Int) (pl : Nat) (t : Tm) : (hlT v pl t).length ≤ (tbs (shT t)).length + 2 := by
  unfold hlT
  split
  · simp only [List.length_cons, List.length_append, List.length_nil]; omega
  · omega
theorem sg_small (o : Int) : (tbs (tsg o)).length ≤ 3 ∧ (tbs (jsg o)).length ≤ 3 ∧ (tbs (qsg o)).length ≤ 3 ∧ (tbs (rsg o)).length ≤ 3 := by
  refine ⟨?_, ?_, ?_, ?_⟩
  · unfold tsg; split
    · decide
    · split <;> decide
  · unfold jsg sgOf; split <;> decide
  · unfold qsg; split <;> decide
  · unfold rsg
    have : ∀ i, i < 7 → (tbs (rels.getD i emp)).length ≤ 3 := by decide +kernel
    by_cases h : (o - 9).toNat < 7
    · exact this _ h
    · rw [List.getD_eq_getElem?_getD, List.getElem?_eq_none (by show 7 ≤ _; omega)]; decide
theorem tm_len : ∀ t : Tm, t.all (wellT nmB) = true → t.all nT = true → (tbs (shT t)).length ≤ 100 * t.size := by
  refine Tm.ind (fun o n x a ih h hn => ?_)
  rw [Tm.size]
  rcases well_tm (all_own h) with ⟨rfl, h0, rfl, rfl⟩ | ⟨rfl, rfl, hx, rfl⟩ | ⟨rfl, rfl, rfl, t, rfl⟩ | ⟨ho, rfl, rfl, t, u, rfl⟩
  · rw [tt_num, tb_len]
    have := dec_20 (n := n) (of_decide_eq_true (all_own hn))
    omega
  · rw [tt_nam, tb_len]
    have := name_short ((nmB_iff x).1 hx)
    omega
  · rw [tt_neg, List.length_cons, Tm.sizeL, Tm.sizeL]
    have := hl_len 2 0 t
    have := ih t (by simp) (all_one h).2 (all_one hn).2
    omega
  · rw [tt_two ho, Tm.sizeL, Tm.sizeL, Tm.sizeL]
    simp only [List.length_append, List.length_cons]
    have := hl_len o 0 t
    have := hl_len o 1 u
    have := (sg_small o).1
    have := ih t (by simp) (all_two h).2.1 (all_two hn).2.1
    have := ih u (by simp) (all_two h).2.2 (all_two hn).2.2
    omega
theorem fm_len : ∀ f : Fm, f.all (wellT nmB) (wellF nmB) = true → f.all nT nF = true → (tbs (shF f)).length ≤ 100 * f.size := by
  refine Fm.ind (fun o x m t a ih h hn => ?_)
  obtain ⟨h1, h2, h3⟩ := fll_own h
  obtain ⟨n1, n2, n3⟩ := fll_own hn
  obtain ⟨s1, s2, s3, s4⟩ := sg_small o
  rw [Fm.size]
  have hsh := well_fm h1
  cases hsh with
  | leaf ho =>
    rcases ho with rfl | rfl
    · rw [tf_tru]; have : (tbs kTrue).length = 4 := rfl; omega
    · rw [tf_fls]; have : (tbs kFalse).length = 5 := rfl; omega
  | @not f =>
    have e : tbs kNot = [110, 111, 116] := rfl
    rw [tf_not, e, Fm.sizeL, Fm.sizeL]
    simp only [List.length_append, List.length_cons, List.length_nil]
    have := ih f (by simp) (fl_one h3) (fl_one n3)
    omega
  | @pair o f g ho1 ho2 =>
    rw [tf_pair ho1 ho2, Fm.sizeL, Fm.sizeL, Fm.sizeL]
    simp only [List.length_append, List.length_cons, List.length_nil]
    have := ih f (by simp) (fl_two h3).1 (fl_two n3).1
    have := ih g (by simp) (fl_two h3).2 (fl_two n3).2
    omega
  | @qu o x f ho hx =>
    rw [tf_qu ho, Fm.sizeL, Fm.sizeL]
    simp only [List.length_append, List.length_cons, tb_len x]
    have := name_short ((nmB_iff x).1 hx)
    have := ih f (by simp) (fl_one h3) (fl_one n3)
    omega
  | @rel o t u ho1 ho2 =>
    rw [tf_rel ho1 ho2, Tm.sizeL, Tm.sizeL, Tm.sizeL]
    simp only [List.length_append, List.length_cons]
    have := tm_len t (tl_two h2).1 (tl_two n2).1
    have := tm_len u (tl_two h2).2 (tl_two n2).2
    omega
  | @cong m t u hm =>
    rw [tf_cong, Tm.sizeL, Tm.sizeL, Tm.sizeL]
    simp only [List.length_append, List.length_cons, tb_len (dec _)]
    have := tm_len t (tl_two h2).1 (tl_two n2).1
    have := tm_len u (tl_two h2).2 (tl_two n2).2
    have := dec_20 (n := m) (of_decide_eq_true n1)
    have : (tbs kMod).length = 3 := rfl
    omega
theorem pos_len {l : List UInt8} (h : 0 < l.length) : l ≠ [] := fun e => by rw [e] at h; simp at h
theorem fm_some : ∀ f : Fm, f.all (wellT nmB) (wellF nmB) = true → 0 < (tbs (shF f)).length := by
  refine Fm.ind (fun o x m t a ih h => ?_)
  obtain ⟨h1, h2, h3⟩ := fll_own h
  have hsh := well_fm h1
  cases hsh with
  | leaf ho =>
    rcases ho with rfl | rfl
    · rw [tf_tru]; decide
    · rw [tf_fls]; decide
  | @not f => rw [tf_not]; simp only [List.length_append, List.length_cons]; omega
  | @pair o f g ho1 ho2 => rw [tf_pair ho1 ho2, List.length_cons]; omega
  | @qu o x f ho hx => rw [tf_qu ho, List.length_append, List.length_cons]; omega
  | @rel o t u ho1 ho2 => rw [tf_rel ho1 ho2, List.length_append, List.length_cons]; omega
  | @cong m t u hm => rw [tf_cong, List.length_append, List.length_cons]; omega
theorem tm_some (t : Tm) (h : t.all (wellT nmB) = true) : 0 < (tbs (shT t)).length := by
  obtain ⟨o, n, x, a⟩ := t
  rcases well_tm (all_own h) with ⟨rfl, h0, rfl, rfl⟩ | ⟨rfl, rfl, hx, rfl⟩ | ⟨rfl, rfl, rfl, t, rfl⟩ | ⟨ho, rfl, rfl, t, u, rfl⟩
  · rw [tt_num, tb_len, dec_size]; exact (dec_all _).1
  · rw [tt_nam, tb_len]
    obtain ⟨⟨n, hn, h1, h16, hm⟩, hr⟩ := (nmB_iff x).1 hx
    exact (hm 0 (by omega)).1
  · rw [tt_neg, List.length_cons]; omega
  · rw [tt_two ho, List.length_append, List.length_cons]; omega
end Go.Proofs.YtncgmnijgdfenaaDoor.Gl
