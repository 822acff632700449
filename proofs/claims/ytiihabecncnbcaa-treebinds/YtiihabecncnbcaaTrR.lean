/- Trees put together: plain mathematics. -/
import Derived.Test.YtiihabecncnbcaaTrN
import Derived.Test.YtiihabecncnbcaaGlMe
namespace Go.Proofs.Ytiihabecncnbcaa.Gl
open Go.RowKit
set_option linter.unusedVariables false

/- where only the depth is too great -/
def D3 (k dd : Nat) (good : Bool) (s s' : St) : Prop := s.e = 0 → s.n + k ≤ 500 → good = true → ¬ dd ≤ 40 → s'.e = 72
theorem D3.comp {k1 d1 k2 d2 : Nat} {g1 g2 : Bool} {s s1 s2 : St} (f1 : Fine k1 d1 g1 s s1) (h1 : D3 k1 d1 g1 s s1) (h2 : D3 k2 d2 g2 s1 s2) (he : s1.e ≠ 0 → s2 = s1) : D3 (k1 + k2) (max d1 d2) (g1 && g2) s s2 := by
  intro a0 a1 a2 a3
  rw [Bool.and_eq_true] at a2
  by_cases hd : d1 ≤ 40
  · have e1 := f1.1 a0 (by omega) hd a2.1
    exact h2 (by rw [e1]) (by rw [e1]; show s.n + k1 + k2 ≤ 500; omega) a2.2 (by omega)
  · have e1 := h1 a0 (by omega) a2.1 hd
    rw [he (by rw [e1]; decide)]
    exact e1
theorem node_d3 (dp : Nat) (good : Bool) (s : St) : D3 1 dp good s (s.node dp good) := by
  intro h0 h1 h2 h3
  unfold St.node
  dsimp only
  rw [if_neg (by omega), if_pos (by omega)]
theorem meterTL_d3 {nm : ByteArray → Bool} {l : List Tm} (hl : ∀ t ∈ l, ∀ dp s, 1 ≤ dp → D3 t.size (dp - 1 + t.deep) (t.all (wellT nm)) s (meterT nm t dp s)) (dp : Nat) (hdp : 1 ≤ dp) :
    ∀ s, D3 (Tm.sizeL l) (under dp (Tm.deepL l)) (Tm.allL (wellT nm) l) s (meterTL nm l dp s) := by
  induction l with
  | nil => intro s _ _ _ h; rw [Tm.deepL] at h; exact absurd (by unfold under; rw [if_pos rfl]; omega) h
  | cons t r ih =>
    intro s
    by_cases h0 : s.e = 0
    · rw [Tm.sizeL, Tm.allL, meterTL, Tm.deepL, if_pos h0]
      have := D3.comp (meterT_fine nm t dp s hdp) (hl t (List.mem_cons_self ..) dp s hdp) (ih (fun u hu => hl u (List.mem_cons_of_mem _ hu)) (meterT nm t dp s)) (meterTL_err nm r dp _)
      have hp := t.deep_pos
      have e : under dp (max t.deep (Tm.deepL r)) = max (dp - 1 + t.deep) (under dp (Tm.deepL r)) := by
        unfold under
        rw [if_neg (by omega)]
        split <;> omega
      rw [e]
      exact this
    · exact fun h => absurd h h0
theorem meterT_d3 (nm : ByteArray → Bool) : ∀ t dp s, 1 ≤ dp → D3 (Tm.size t) (dp - 1 + Tm.deep t) (Tm.all (wellT nm) t) s (meterT nm t dp s) := by
  refine Tm.ind (fun o n x a ih dp s hdp => ?_)
  rw [Tm.size, Tm.deep, Tm.all, meterT]
  have := D3.comp (node_fine dp (wellT nm (.mk o n x a)) s) (node_d3 dp (wellT nm (.mk o n x a)) s) (meterTL_d3 (nm := nm) ih (dp + 1) (by omega) (s.node dp (wellT nm (.mk o n x a)))) (meterTL_err nm a (dp + 1) _)
  rw [Nat.add_comm 1] at this
  have e : dp - 1 + (Tm.deepL a + 1) = max dp (under (dp + 1) (Tm.deepL a)) := by
    unfold under
    split <;> omega
  rw [e]
  exact this
theorem meterFL_d3 {nm : ByteArray → Bool} {l : List Fm} (hl : ∀ t ∈ l, ∀ dp s, 1 ≤ dp → D3 t.size (dp - 1 + t.deep) (t.all (wellT nm) (wellF nm)) s (meterF nm t dp s)) (dp : Nat) (hdp : 1 ≤ dp) :
    ∀ s, D3 (Fm.sizeL l) (under dp (Fm.deepL l)) (Fm.allL (wellT nm) (wellF nm) l) s (meterFL nm l dp s) := by
  induction l with
  | nil => intro s _ _ _ h; rw [Fm.deepL] at h; exact absurd (by unfold under; rw [if_pos rfl]; omega) h
  | cons t r ih =>
    intro s
    by_cases h0 : s.e = 0
    · rw [Fm.sizeL, Fm.allL, meterFL, Fm.deepL, if_pos h0]
      have := D3.comp (meterF_fine nm t dp s hdp) (hl t (List.mem_cons_self ..) dp s hdp) (ih (fun u hu => hl u (List.mem_cons_of_mem _ hu)) (meterF nm t dp s)) (meterFL_err nm r dp _)
      have hp := t.deep_pos
      have e : under dp (max t.deep (Fm.deepL r)) = max (dp - 1 + t.deep) (under dp (Fm.deepL r)) := by
        unfold under
        rw [if_neg (by omega)]
        split <;> omega
      rw [e]
      exact this
    · exact fun h => absurd h h0
theorem meterF_d3 (nm : ByteArray → Bool) : ∀ f dp s, 1 ≤ dp → D3 (Fm.size f) (dp - 1 + Fm.deep f) (Fm.all (wellT nm) (wellF nm) f) s (meterF nm f dp s) := by
  refine Fm.ind (fun o x m t a ih dp s hdp => ?_)
  rw [Fm.size, Fm.deep, Fm.all, meterF]
  have f1 := (node_fine dp (wellF nm (.mk o x m t a)) s).comp (meterTL_fine (nm := nm) (l := t) (fun u _ dp s h => meterT_fine nm u dp s h) (dp + 1) (by omega) (s.node dp (wellF nm (.mk o x m t a)))) (meterTL_bad nm t (dp + 1) _)
  have h1 := D3.comp (node_fine dp (wellF nm (.mk o x m t a)) s) (node_d3 dp (wellF nm (.mk o x m t a)) s) (meterTL_d3 (nm := nm) (l := t) (fun u _ dp s h => meterT_d3 nm u dp s h) (dp + 1) (by omega) (s.node dp (wellF nm (.mk o x m t a)))) (meterTL_err nm t (dp + 1) _)
  have := D3.comp f1 h1 (meterFL_d3 (nm := nm) ih (dp + 1) (by omega) _) (meterFL_err nm a (dp + 1) _)
  have e1 : Tm.sizeL t + Fm.sizeL a + 1 = 1 + Tm.sizeL t + Fm.sizeL a := by omega
  have e : dp - 1 + (max (Tm.deepL t) (Fm.deepL a) + 1) = max (max dp (under (dp + 1) (Tm.deepL t))) (under (dp + 1) (Fm.deepL a)) := by
    unfold under
    split <;> split <;> omega
  rw [e, e1]
  exact this
/-- right but for the depth: ErrDeep -/
theorem chk_deep {nm : ByteArray → Bool} {f : Fm} (h1 : f.size ≤ 500) (h2 : ¬ f.deep ≤ 40) (h3 : f.all (wellT nm) (wellF nm) = true) : chk nm f = 72 := by
  unfold chk
  exact meterF_d3 nm f 1 ⟨0, 0, 0⟩ (by omega) rfl (by show 0 + f.size ≤ 500; omega) h3 (by omega)
/- the free variables of a right formula are names, and rise -/
theorem namesTL_mem {l : List Tm} {x : ByteArray} (h : x ∈ namesTL l) : ∃ t ∈ l, x ∈ namesT t := by
  induction l with
  | nil => rw [namesTL] at h; cases h
  | cons t r ih =>
    rw [namesTL, List.mem_append] at h
    rcases h with h | h
    · exact ⟨t, List.mem_cons_self .., h⟩
    · obtain ⟨u, hu, hx⟩ := ih h
      exact ⟨u, List.mem_cons_of_mem _ hu, hx⟩
theorem Tm.allL_mem {P : Tm → Bool} {l : List Tm} (h : Tm.allL P l = true) : ∀ t ∈ l, Tm.all P t = true := by
  induction l with
  | nil => intro t ht; cases ht
  | cons u r ih =>
    rw [Tm.allL, Bool.and_eq_true] at h
    intro t ht
    rcases List.mem_cons.1 ht with rfl | ht
    · exact h.1
    · exact ih h.2 t ht
theorem Fm.allL_mem {P : Tm → Bool} {Q : Fm → Bool} {l : List Fm} (h : Fm.allL P Q l = true) : ∀ t ∈ l, Fm.all P Q t = true := by
  induction l with
  | nil => intro t ht; cases ht
  | cons u r ih =>
    rw [Fm.allL, Bool.and_eq_true] at h
    intro t ht
    rcases List.mem_cons.1 ht with rfl | ht
    · exact h.1
    · exact ih h.2 t ht
theorem namesT_names : ∀ t, Tm.all (wellT nmB) t = true → ∀ x ∈ namesT t, IsName x := by
  refine Tm.ind (fun o n x a ih h y hy => ?_)
  rw [Tm.all, Bool.and_eq_true] at h
  rw [namesT] at hy
  split at hy
  · rename_i ho
    obtain rfl : y = x := by simpa using hy
    have hw : wT nmB o n y a.length = true := h.1
    unfold wT at hw
    rw [if_neg (by omega), if_pos ho] at hw
    simp only [Bool.and_eq_true] at hw
    exact (nmB_iff _).1 hw.1.2
  · rw [tog_mem] at hy
    obtain ⟨u, hu, hx⟩ := namesTL_mem hy
    exact ih u hu (Tm.allL_mem h.2 u hu) y hx
theorem freeFL_mem {q : Bool} {z : ByteArray} {l : List Fm} {x : ByteArray} (h : x ∈ freeFL q z l) : ∃ f ∈ l, x ∈ freeF f := by
  induction l with
  | nil => rw [freeFL] at h; cases h
  | cons t r ih =>
    rw [freeFL, List.mem_append] at h
    rcases h with h | h
    · exact ⟨t, List.mem_cons_self .., (List.mem_filter.1 h).1⟩
    · obtain ⟨u, hu, hx⟩ := ih h
      exact ⟨u, List.mem_cons_of_mem _ hu, hx⟩
theorem freeF_names : ∀ f, Fm.all (wellT nmB) (wellF nmB) f = true → ∀ x ∈ freeF f, IsName x := by
  refine Fm.ind (fun o x m t a ih h y hy => ?_)
  rw [Fm.all, Bool.and_eq_true, Bool.and_eq_true] at h
  rw [freeF, tog_mem, List.mem_append] at hy
  rcases hy with hy | hy
  · obtain ⟨u, hu, hx⟩ := namesTL_mem hy
    exact namesT_names u (Tm.allL_mem h.1.2 u hu) y hx
  · obtain ⟨u, hu, hx⟩ := freeFL_mem hy
    exact ih u hu (Fm.allL_mem h.2 u hu) y hx
theorem freeF_ris (f : Fm) : Ris (freeF f) := by
  cases f with
  | mk o x m t a => rw [freeF]; exact tog_ris _
theorem freeF_rise {f : Fm} (h : Fm.all (wellT nmB) (wellF nmB) f = true) : Rise (freeF f) := (rise_iff _).2 ⟨freeF_names f h, freeF_ris f⟩
/- a quantifier -/
theorem bind_all (q : Int) (hq : q = 7 ∨ q = 8) (x : ByteArray) (f : Fm) : Fm.all (wellT nmB) (wellF nmB) (.mk q x 0 [] [f]) = (nmB x && Fm.all (wellT nmB) (wellF nmB) f) := by
  rw [Fm.all, Tm.allL, Fm.allL, Fm.allL]
  have : wellF nmB (.mk q x 0 [] [f]) = nmB x := by
    show wF nmB q x 0 0 1 = nmB x
    unfold wF
    rw [if_pos hq]
    simp
  rw [this]
  simp
theorem bind_size (q : Int) (x : ByteArray) (f : Fm) : Fm.size (.mk q x 0 [] [f]) = f.size + 1 := by
  rw [Fm.size, Tm.sizeL, Fm.sizeL, Fm.sizeL]; omega
theorem bind_deep (q : Int) (x : ByteArray) (f : Fm) : Fm.deep (.mk q x 0 [] [f]) = f.deep + 1 := by
  rw [Fm.deep, Tm.deepL, Fm.deepL, Fm.deepL]; omega
theorem bind_right (q : Int) (hq : q = 7 ∨ q = 8) (x : ByteArray) (f : Fm) : chk nmB (.mk q x 0 [] [f]) = 0 ↔ IsName x ∧ chk nmB f = 0 ∧ f.size ≠ 500 ∧ f.deep ≠ 40 := by
  rw [chk_iff, chk_iff, right, right, bind_size, bind_deep, bind_all q hq, Bool.and_eq_true, nmB_iff]
  constructor
  · rintro ⟨a, b, c, d⟩; exact ⟨c, ⟨by omega, by omega, d⟩, by omega, by omega⟩
  · rintro ⟨a, ⟨b, c, d⟩, e, g⟩; exact ⟨by omega, by omega, a, d⟩
theorem bind_free (q : Int) (hq : q = 7 ∨ q = 8) (x : ByteArray) (f : Fm) : freeF (.mk q x 0 [] [f]) = (freeF f).filter (keepB true x) := by
  rw [freeF, namesTL, freeFL, freeFL, List.nil_append, List.append_nil, show quant q = true from decide_eq_true hq]
  exact tog_self ((freeF_ris f).filter _)
theorem bind_plain (q : Int) (hq : q = 7 ∨ q = 8) (x : ByteArray) (f : Fm) : plainF (.mk q x 0 [] [f]) = false := by
  rw [plainF, show quant q = true from decide_eq_true hq]; rfl
theorem bind_ne (q : Int) (x : ByteArray) (f : Fm) : ¬ Fm.mk q x 0 [] [f] = f := fun e => by
  have := congrArg Fm.size e
  rw [bind_size] at this
  omega
/- a connective -/
theorem join_all (k : Int) (hk : 3 ≤ k ∧ k ≤ 6) (f g : Fm) : Fm.all (wellT nmB) (wellF nmB) (.mk k emp 0 [] [f, g]) = (Fm.all (wellT nmB) (wellF nmB) f && Fm.all (wellT nmB) (wellF nmB) g) := by
  rw [Fm.all, Tm.allL, Fm.allL, Fm.allL, Fm.allL]
  have : wellF nmB (.mk k emp 0 [] [f, g]) = true := by
    show wF nmB k emp 0 0 2 = true
    unfold wF
    rw [if_neg (by omega), if_neg (by omega), if_pos (by omega), if_neg (by omega), if_neg (by omega), if_pos hk]
    decide +kernel
  rw [this]
  simp
theorem join_fsize (k : Int) (f g : Fm) : Fm.size (.mk k emp 0 [] [f, g]) = f.size + g.size + 1 := by
  rw [Fm.size, Tm.sizeL, Fm.sizeL, Fm.sizeL, Fm.sizeL]; omega
theorem join_deep (k : Int) (f g : Fm) : Fm.deep (.mk k emp 0 [] [f, g]) = max f.deep g.deep + 1 := by
  rw [Fm.deep, Tm.deepL, Fm.deepL, Fm.deepL, Fm.deepL]; omega
theorem join_right (k : Int) (hk : 3 ≤ k ∧ k ≤ 6) (f g : Fm) : chk nmB (.mk k emp 0 [] [f, g]) = 0 ↔ (chk nmB f = 0 ∧ chk nmB g = 0) ∧ f.size + g.size + 1 ≤ 500 ∧ max f.deep g.deep + 1 ≤ 40 := by
  rw [chk_iff, chk_iff, chk_iff, right, right, right, join_fsize, join_deep, join_all k hk, Bool.and_eq_true]
  constructor
  · rintro ⟨a, b, c, d⟩; exact ⟨⟨⟨by omega, by omega, c⟩, by omega, by omega, d⟩, a, b⟩
  · rintro ⟨⟨⟨_, _, a⟩, _, _, b⟩, c, d⟩; exact ⟨c, d, a, b⟩
theorem join_errdeep (k : Int) (hk : 3 ≤ k ∧ k ≤ 6) (f g : Fm) (hf : chk nmB f = 0) (hg : chk nmB g = 0) (hs : f.size + g.size + 1 ≤ 500) (hd : ¬ max f.deep g.deep + 1 ≤ 40) : chk nmB (.mk k emp 0 [] [f, g]) = 72 := by
  refine chk_deep (by rw [join_fsize]; exact hs) (by rw [join_deep]; exact hd) ?_
  rw [join_all k hk, ((chk_iff nmB f).1 hf).2.2, ((chk_iff nmB g).1 hg).2.2]
  rfl
theorem keep_all (x : ByteArray) (l : List ByteArray) : l.filter (keepB false x) = l := List.filter_eq_self.2 (fun _ _ => rfl)
theorem join_free (k : Int) (hk : 3 ≤ k ∧ k ≤ 6) (f g : Fm) : freeF (.mk k emp 0 [] [f, g]) = togL (freeF f ++ freeF g) := by
  rw [freeF, namesTL, freeFL, freeFL, freeFL, List.nil_append, List.append_nil, show quant k = false from decide_eq_false (by omega), keep_all, keep_all]
theorem tog_comm (a b : List ByteArray) : togL (a ++ b) = togL (b ++ a) :=
  ris_unique (tog_ris _) (tog_ris _) (fun x => by rw [tog_mem, tog_mem, List.mem_append, List.mem_append]; exact Or.comm)
theorem join_wid (k : Int) (f g : Fm) : widF (.mk k emp 0 [] [f, g]) = max (freeF (.mk k emp 0 [] [f, g])).length (max (widF f) (widF g)) := by
  rw [widF, widFL, widFL, widFL]; omega
end Go.Proofs.Ytiihabecncnbcaa.Gl
