/- The names of right trees: plain mathematics. -/
import Derived.Test.YtiihabecncnbcaaNdL
import Derived.Test.YtiihabecncnbcaaTrN
namespace Go.Proofs.Ytiihabecncnbcaa.Gl
set_option linter.unusedVariables false

theorem name_small {x : ByteArray} (h : IsName x) : x.size ≤ 4096 := by
  obtain ⟨⟨n, hc, _, hn, _⟩, _⟩ := h
  have key : ∀ k, k ≤ n → pos x k ≤ 4 * k := by
    intro k
    induction k with
    | zero => intro _; exact Nat.le_refl _
    | succ k ih =>
      intro hk
      have := (rd_bd x (pos x k) (hc.2 k (by omega))).2.2
      have := ih (by omega)
      rw [pos_succ]; omega
  have := key n (Nat.le_refl _)
  have h1 := hc.1
  omega
theorem nms_append (l r : List Nd) : nms (l ++ r) = nms l ++ nms r := by simp [nms]
theorem well_name {o n : Int} {x : ByteArray} {a : List Tm} (h : wellT nmB (.mk o n x a) = true) (ho : o = 1) : IsName x ∧ a = [] := by
  subst ho
  have h' : wT nmB 1 n x a.length = true := h
  unfold wT at h'
  rw [if_neg (by decide), if_pos rfl] at h'
  simp only [Bool.and_eq_true, decide_eq_true_eq] at h'
  exact ⟨(nmB_iff x).1 h'.1.2, List.length_eq_zero_iff.1 h'.2⟩
/- the names of a term's nodes -/
theorem nms_TL {a : List Tm} (ih : ∀ t ∈ a, t.all (wellT nmB) = true → ∀ d, (∀ x, x ∈ nms (ndT t d) ↔ x ∈ namesT t) ∧ (∀ x ∈ ndT t d, x.top = 1 → IsName x.name)) (h : Tm.allL (wellT nmB) a = true) (d : Int) : (∀ x, x ∈ nms (ndTL a d) ↔ x ∈ namesTL a) ∧ (∀ x ∈ ndTL a d, x.top = 1 → IsName x.name) := by
  induction a with
  | nil => exact ⟨fun x => by rw [ndTL, namesTL]; simp [nms], fun x hx => by cases hx⟩
  | cons t r ihr =>
    rw [Tm.allL, Bool.and_eq_true] at h
    obtain ⟨a1, a2⟩ := ih t (List.mem_cons_self ..) h.1 d
    obtain ⟨b1, b2⟩ := ihr (fun u hu => ih u (List.mem_cons_of_mem _ hu)) h.2
    rw [ndTL, namesTL]
    refine ⟨fun x => by rw [nms_append, List.mem_append, List.mem_append, a1, b1], fun x hx => ?_⟩
    rcases List.mem_append.1 hx with hx | hx
    · exact a2 x hx
    · exact b2 x hx
theorem nms_T : ∀ t, Tm.all (wellT nmB) t = true → ∀ d, (∀ x, x ∈ nms (ndT t d) ↔ x ∈ namesT t) ∧ (∀ x ∈ ndT t d, x.top = 1 → IsName x.name) := by
  refine Tm.ind (fun o n x a ih h d => ?_)
  rw [Tm.all, Bool.and_eq_true] at h
  obtain ⟨b1, b2⟩ := nms_TL ih h.2 (dn d)
  rw [ndT, namesT]
  have e1 : nms (headT d (.mk o n x a) :: ndTL a (dn d)) = (if o = 1 then [x] else []) ++ nms (ndTL a (dn d)) := by
    by_cases ho : o = 1
    · simp [nms, headT, ho]
    · simp [nms, headT, ho]
  refine ⟨fun y => ?_, fun y hy => ?_⟩
  · rw [e1]
    by_cases ho : o = 1
    · obtain ⟨hx, rfl⟩ := well_name h.1 ho
      rw [if_pos ho, if_pos ho, ndTL]
      simp [nms]
    · rw [if_neg ho, if_neg ho, tog_mem, List.nil_append, b1]
  · rcases List.mem_cons.1 hy with rfl | hy
    · intro ht
      exact (well_name h.1 ht).1
    · exact b2 y hy
theorem togT {t : Tm} (h : Tm.all (wellT nmB) t = true) (d : Int) : togL (nms (ndT t d)) = togL (namesT t) := ris_unique (tog_ris _) (tog_ris _) (fun x => by rw [tog_mem, tog_mem]; exact (nms_T t h d).1 x)
theorem names_namesT {t : Tm} (h : Tm.all (wellT nmB) t = true) : ∀ x ∈ namesT t, IsName x ∧ x.size ≤ 4096 := by
  intro x hx
  have hx' := ((nms_T t h 1).1 x).2 hx
  simp only [nms, List.mem_map, List.mem_filter] at hx'
  obtain ⟨y, ⟨hy, ht⟩, rfl⟩ := hx'
  have := (nms_T t h 1).2 y hy (by simpa using ht)
  exact ⟨this, name_small this⟩
theorem allL_get {P : Tm → Bool} {a : List Tm} (h : Tm.allL P a = true) {t : Tm} (ht : t ∈ a) : t.all P = true := by
  induction a with
  | nil => cases ht
  | cons u r ih =>
    rw [Tm.allL, Bool.and_eq_true] at h
    rcases List.mem_cons.1 ht with rfl | ht
    · exact h.1
    · exact ih h.2 ht
theorem allFL_get {P : Tm → Bool} {Q : Fm → Bool} {a : List Fm} (h : Fm.allL P Q a = true) {t : Fm} (ht : t ∈ a) : t.all P Q = true := by
  induction a with
  | nil => cases ht
  | cons u r ih =>
    rw [Fm.allL, Bool.and_eq_true] at h
    rcases List.mem_cons.1 ht with rfl | ht
    · exact h.1
    · exact ih h.2 ht
theorem names_TL {a : List Tm} (h : Tm.allL (wellT nmB) a = true) : ∀ x ∈ namesTL a, IsName x ∧ x.size ≤ 4096 := by
  induction a with
  | nil => intro x hx; rw [namesTL] at hx; cases hx
  | cons t r ih =>
    rw [Tm.allL, Bool.and_eq_true] at h
    intro x hx
    rw [namesTL] at hx
    rcases List.mem_append.1 hx with hx | hx
    · exact names_namesT h.1 x hx
    · exact ih h.2 x hx
theorem names_F : ∀ f, Fm.all (wellT nmB) (wellF nmB) f = true → ∀ x ∈ freeF f, IsName x ∧ x.size ≤ 4096 := by
  refine Fm.ind (fun o x m t a ih h y hy => ?_)
  rw [Fm.all, Bool.and_eq_true, Bool.and_eq_true] at h
  rw [freeF, tog_mem, List.mem_append] at hy
  rcases hy with hy | hy
  · exact names_TL h.1.2 y hy
  · have key : ∀ l : List Fm, (∀ f ∈ l, f ∈ a) → y ∈ freeFL (quant o) x l → IsName y ∧ y.size ≤ 4096 := by
      intro l
      induction l with
      | nil => intro _ h; rw [freeFL] at h; cases h
      | cons f r ihr =>
        intro hm h'
        rw [freeFL] at h'
        rcases List.mem_append.1 h' with h' | h'
        · exact ih f (hm f (List.mem_cons_self ..)) (allFL_get h.2 (hm f (List.mem_cons_self ..))) y (List.mem_filter.1 h').1
        · exact ihr (fun u hu => hm u (List.mem_cons_of_mem _ hu)) h'
    exact key a (fun _ h => h) hy
/- the bound variable struck out of all -/
theorem free_no (x : ByteArray) : ∀ (l : List Fm) (q : Bool) y, y ∈ freeFL q x l ↔ y ∈ freeFL false x l ∧ (q = true → y ≠ x) := by
  intro l q y
  induction l with
  | nil => rw [freeFL, freeFL]; simp
  | cons f r ih =>
    have hk : ∀ z, (keepB q x z = true ↔ (q = true → z ≠ x)) := by
      intro z
      unfold keepB
      cases q with
      | false => simp
      | true =>
        have := eqS_iff z x
        cases he : (z.toList == x.toList) with
        | false => rw [he] at this; simp at this ⊢; exact this
        | true => rw [he] at this; simp at this ⊢; exact this
    have h0 : ∀ z, keepB false x z = true := fun z => by simp [keepB]
    rw [freeFL, freeFL, List.mem_append, List.mem_append, ih, List.mem_filter, List.mem_filter, hk, h0]
    constructor
    · rintro (⟨h1, h2⟩ | ⟨h1, h2⟩)
      · exact ⟨.inl ⟨h1, rfl⟩, h2⟩
      · exact ⟨.inr h1, h2⟩
    · rintro ⟨⟨h1, -⟩ | h1, h2⟩
      · exact .inl ⟨h1, h2⟩
      · exact .inr ⟨h1, h2⟩
theorem quant_terms {o : Int} {x : ByteArray} {m : Int} {t : List Tm} {a : List Fm} (h : wellF nmB (.mk o x m t a) = true) (hq : quant o = true) : t = [] := by
  have h' : wF nmB o x m t.length a.length = true := h
  have hq' : o = 7 ∨ o = 8 := by simpa [quant] using hq
  unfold wF at h'
  rw [if_pos hq'] at h'
  simp only [Bool.and_eq_true, decide_eq_true_eq] at h'
  exact List.length_eq_zero_iff.1 h'.1.2
/-- the names of the parts, all together, and those but the bound one -/
theorem free_plain {o : Int} {x : ByteArray} {m : Int} {t : List Tm} {a : List Fm} (hq : quant o = false) : freeF (.mk o x m t a) = togL (namesTL t ++ freeFL false x a) := by rw [freeF, hq]
theorem free_bound {o : Int} {x : ByteArray} {m : Int} {t : List Tm} {a : List Fm} {R : List ByteArray} (h : wellF nmB (.mk o x m t a) = true) (hq : quant o = true) (hR : Ris R) (hm : ∀ y, y ∈ R ↔ y ∈ togL (namesTL t ++ freeFL false x a) ∧ y ≠ x) : R = freeF (.mk o x m t a) := by
  have ht := quant_terms h hq
  subst ht
  refine ris_unique hR (by rw [freeF]; exact tog_ris _) (fun y => ?_)
  rw [hm, freeF, tog_mem, tog_mem, hq, namesTL, List.nil_append, List.nil_append, free_no x a true y]
  simp
theorem tog_step (A B : List ByteArray) : togL (togL A ++ B) = togL (A ++ B) := ris_unique (tog_ris _) (tog_ris _) (fun x => by rw [tog_mem, tog_mem, List.mem_append, List.mem_append, tog_mem])
theorem tog_step2 (A B : List ByteArray) : togL (togL A ++ togL B) = togL (A ++ B) := ris_unique (tog_ris _) (tog_ris _) (fun x => by rw [tog_mem, tog_mem, List.mem_append, List.mem_append, tog_mem, tog_mem])
theorem free_ris (f : Fm) : Ris (freeF f) := by cases f; rw [freeF]; exact tog_ris _
theorem widFL_take (a : List Fm) (k : Nat) (h : k < a.length) : widFL (a.take (k + 1)) = max (widFL (a.take k)) (widF a[k]) := by
  rw [List.take_succ_eq_append_getElem h]
  generalize a.take k = l
  induction l with
  | nil => simp [widFL]
  | cons f r ih => rw [List.cons_append, widFL, widFL, ih]; omega
theorem widF_le : ∀ f, widF f ≤ f.size := by
  refine Fm.ind (fun o x m t a ih => ?_)
  rw [widF]
  have h1 := freeF_len (.mk o x m t a)
  have key : ∀ l : List Fm, (∀ f ∈ l, f ∈ a) → widFL l ≤ Fm.sizeL l := by
    intro l
    induction l with
    | nil => intro _; rw [widFL]; omega
    | cons f r ihr =>
      intro hm
      rw [widFL, Fm.sizeL]
      have := ih f (hm f (List.mem_cons_self ..))
      have := ihr (fun u hu => hm u (List.mem_cons_of_mem _ hu))
      omega
  have := key a (fun _ h => h)
  rw [Fm.size] at h1 ⊢
  omega
theorem filt_false (x : ByteArray) (l : List ByteArray) : l.filter (keepB false x) = l := by
  rw [List.filter_eq_self]
  intro y _
  simp [keepB]
end Go.Proofs.Ytiihabecncnbcaa.Gl
/- free: a right formula's free variables, and the most. -/
namespace Go.Proofs.Ytiihabecncnbcaa.Gl
open Go.RowKit Go.Shelf
set_option linter.unusedVariables false

theorem togL_len (l : List ByteArray) : (togL l).length ≤ l.length := tog_le l
/-- a list of names that is owned, in plain words -/
def Own (w : World) (base : Nat) (v : Value) (L : List ByteArray) : Prop := w.ownsRow base 9 1 v L.length (cellsS L)
theorem names_tog {l : List ByteArray} (h : ∀ x ∈ l, IsName x ∧ x.size ≤ 4096) : ∀ x ∈ togL l, IsName x ∧ x.size ≤ 4096 := fun x hx => h x ((tog_mem l x).1 hx)
theorem tn_at (W : World) (t : Tm) (v : Value) (w : World) (hv : TmV W t v) (hW : Below W.heap.size W w) (hsz : t.size ≤ 500) (ht : Tm.all (wellT nmB) t = true) :
    Calls Try.prog 43 #[v] w fun e w' => ∃ v', e = .returned v' ∧ Own w' w.heap.size v' (togL (namesT t)) ∧ Below w.heap.size w w' := by
  refine (termNames_at W t v w hv hW (by omega) (fun x hx h1 => name_small ((nms_T t ht 1).2 x hx h1))).mono ?_
  rintro e w' ⟨v', rfl, h1, h2⟩
  rw [togT ht] at h1
  exact ⟨v', rfl, h1, h2⟩
theorem un_at (v v2 : Value) (A B : List ByteArray) (b1 b2 base : Nat) (w : World) (hA : Own w b1 v A) (hB : Own w b2 v2 B) (nA : ∀ x ∈ A, IsName x ∧ x.size ≤ 4096) (nB : ∀ x ∈ B, IsName x ∧ x.size ≤ 4096) (rA : Ris A) (rB : Ris B) (hn : A.length + B.length ≤ 100000) (hb : base ≤ w.heap.size) :
    Calls Try.prog 42 #[v, v2] w fun e w' => ∃ v', e = .returned v' ∧ Own w' base v' (togL (A ++ B)) ∧ Below w.heap.size w w' := by
  obtain ⟨ro, cr, rfl, hS⟩ := rds_of_owns hA
  obtain ⟨ro2, cr2, rfl, hS2⟩ := rds_of_owns hB
  refine (union_at ro ro2 _ cr _ cr2 A B w hS hS2 nA nB rA rB hn).mono ?_
  rintro e w' ⟨v', rfl, h1, h2⟩
  exact ⟨v', rfl, owns_mono h1 hb, h2⟩
theorem own_val {w : World} {base : Nat} {v : Value} {L : List ByteArray} (h : Own w base v L) : ∃ ro cr, v = .slice ro L.length cr := by
  obtain ⟨ro, cr, e, _⟩ := rds_of_owns h
  exact ⟨ro, cr, e⟩
theorem names_FL {q : Bool} {x : ByteArray} {l : List Fm} (h : Fm.allL (wellT nmB) (wellF nmB) l = true) : ∀ y ∈ freeFL q x l, IsName y ∧ y.size ≤ 4096 := by
  induction l with
  | nil => intro y hy; rw [freeFL] at hy; cases hy
  | cons f r ih =>
    rw [Fm.allL, Bool.and_eq_true] at h
    intro y hy
    rw [freeFL] at hy
    rcases List.mem_append.1 hy with hy | hy
    · exact names_F f h.1 y (List.mem_filter.1 hy).1
    · exact ih h.2 y hy
theorem allFL_take : ∀ (l : List Fm) (j : Nat), Fm.allL (wellT nmB) (wellF nmB) l = true → Fm.allL (wellT nmB) (wellF nmB) (l.take j) = true := by
  intro l
  induction l with
  | nil => intro j _; rw [List.take_nil]; rfl
  | cons u r ihr =>
    intro j h
    cases j with
    | zero => rw [List.take_zero]; rfl
    | succ j => rw [List.take_succ_cons, Fm.allL] at *; rw [Bool.and_eq_true] at h ⊢; exact ⟨h.1, ihr j h.2⟩
theorem names_app {A B : List ByteArray} (hA : ∀ x ∈ A, IsName x ∧ x.size ≤ 4096) (hB : ∀ x ∈ B, IsName x ∧ x.size ≤ 4096) : ∀ x ∈ A ++ B, IsName x ∧ x.size ≤ 4096 := fun x hx => (List.mem_append.1 hx).elim (hA x) (hB x)
theorem ret_two {v : Value} {a b : Int} (h : a = b) : Ending.returned (.tuple #[v, .int .i64 a]) = .returned (.tuple #[v, .int .i64 b]) := by rw [h]
theorem int_val {a b : Int} (h : a = b) : Value.int .i64 a = Value.int .i64 b := by rw [h]
set_option maxRecDepth 100000 in
set_option maxHeartbeats 8000000 in
theorem free_at (W : World) : ∀ f v w, FmV W f v → Below W.heap.size W w → f.size ≤ 500 → Fm.all (wellT nmB) (wellF nmB) f = true →
    Calls Try.prog 26 #[v] w fun e w' => ∃ v', e = .returned (.tuple #[v', .int .i64 (widF f : Nat)]) ∧ Own w' w.heap.size v' (freeF f) ∧ Below w.heap.size w w' := by
  refine Fm.ind (fun o x m t a ih v w hv hW hsz hall => ?_)
  obtain ⟨c0, c1, c2, c3, c4, rfl, hr⟩ := hv
  rw [RdF] at hr
  obtain ⟨rfl, rfl, rfl, hbd, ⟨bo, ct, rfl, hlt1, hct, hLT⟩, ao, ca, rfl, hlc, hcz, hLA⟩ := hr
  rw [Fm.all, Bool.and_eq_true, Bool.and_eq_true] at hall
  obtain ⟨⟨hwf, hwt⟩, hwa⟩ := hall
  rw [Fm.size] at hsz
  have HWF : Hid (wellF nmB (.mk o x m t a) = true) := hwf
  have HWT : Hid (Tm.allL (wellT nmB) t = true) := hwt
  have HWA : Hid (Fm.allL (wellT nmB) (wellF nmB) a = true) := hwa
  have IH : Hid (∀ f ∈ a, ∀ v w, FmV W f v → Below W.heap.size W w → f.size ≤ 500 → Fm.all (wellT nmB) (wellF nmB) f = true →
    Calls Try.prog 26 #[v] w fun e w' => ∃ v', e = .returned (.tuple #[v', .int .i64 (widF f : Nat)]) ∧ Own w' w.heap.size v' (freeF f) ∧ Below w.heap.size w w') := ih
  have HLT : Hid (RdTL W t bo 0) := hLT
  have HLA : Hid (RdFL W a ao 0) := hLA
  have hst : Tm.sizeL t ≤ 500 := by omega
  have hsa : Fm.sizeL a ≤ 500 := by omega
  have hQC := quant_at o
  have QC : Hid (∀ w, Calls Try.prog 41 #[.int .i64 o] w fun e w' => e = .returned (.bool (quant o)) ∧ w = w') := hQC
  obtain ⟨bx, hbx⟩ : ∃ b, Obj.cells #[.int .i64 o, .string x, .int .i64 m, .slice bo t.length ct, .slice ao a.length ca] 27 = b := ⟨_, rfl⟩
  have hn0 : (w.alloc bx).heap[w.heap.size]? = some bx := World.alloc_heap_new w bx
  have hB0 : Below w.heap.size w (w.alloc bx) := (Below.refl _ _).alloc (Nat.le_refl _) _
  have hO0 : Own (w.alloc bx) w.heap.size (.slice none (togL (namesTL (t.take 0))).length 0) (togL (namesTL (t.take 0))) := by
    rw [List.take_zero, namesTL]; exact World.ownsRow_nil ..
  subst hbx
  clear ih hLT hLA hwf hwt hwa hQC
  go_enter Try.func26, Try.ntmps26
  go_wp2
  go_loopw [2, 13] (fun v i wr => ∃ (k : Nat) (ro : Option Addr) (cr : Nat), k ≤ t.length ∧ i = .int .i64 k ∧ v = .slice ro (togL (namesTL (t.take k))).length cr ∧ Own wr w.heap.size (.slice ro (togL (namesTL (t.take k))).length cr) (togL (namesTL (t.take k))) ∧ Below w.heap.size w wr ∧ wr.heap[w.heap.size]? = some (Obj.cells #[.int .i64 o, .string x, .int .i64 m, .slice bo t.length ct, .slice ao a.length ca] 27)) (fun _ i _ => t.length - (intOf i).toNat)
  case atStart => exact ⟨0, none, 0, Nat.zero_le _, rfl, by rw [List.take_zero, namesTL]; rfl, hO0, hB0, hn0⟩
  case round =>
    clear hO0 hB0 hn0
    obtain ⟨k, ro, cr, hk, rfl, rfl, hO, hB, hx⟩ := hrel
    by_cases hlt : k < t.length
    · have hWr : Below W.heap.size W wr := hW.trans (hB.mono hW.size)
      obtain ⟨g, of, d0, d1, d2, d3, rfl, hg, q0, q1, q2, q3, hrd⟩ := HLT.out.get k hlt
      rw [Nat.zero_add] at q0 q1 q2 q3
      obtain ⟨⟨o', n', x', a'⟩, hak⟩ : ∃ u, t[k] = u := ⟨_, rfl⟩
      have hrd2 := hrd
      rw [hak, RdT] at hrd2
      obtain ⟨rfl, rfl, rfl, hbd', ao', ca', rfl, -⟩ := hrd2
      have p0 := (hWr.cell (p := ⟨g, of + k * 4, none⟩) hg).trans q0
      have p1 := (hWr.cell (p := ⟨g, of + k * 4 + 1, none⟩) hg).trans q1
      have p2 := (hWr.cell (p := ⟨g, of + k * 4 + 2, none⟩) hg).trans q2
      have p3 := (hWr.cell (p := ⟨g, of + k * 4 + 3, none⟩) hg).trans q3
      obtain ⟨b1, hb1⟩ : ∃ b, Obj.cells #[.int .i64 o', .int .i64 n', .string x', .slice ao' a'.length ca'] 58 = b := ⟨_, rfl⟩
      have hBa : Below wr.heap.size wr (wr.alloc b1) := (Below.refl _ _).alloc (Nat.le_refl _) _
      have hmem : t[k] ∈ t := List.getElem_mem hlt
      have hwk := allL_get HWT.out hmem
      have hszk : t[k].size ≤ 500 := Nat.le_trans (Tm.size_mem hmem) hst
      have hwt' : Tm.allL (wellT nmB) (t.take k) = true := by
        have key : ∀ (l : List Tm) (j : Nat), Tm.allL (wellT nmB) l = true → Tm.allL (wellT nmB) (l.take j) = true := by
          intro l
          induction l with
          | nil => intro j _; rw [List.take_nil]; rfl
          | cons u r ihr =>
            intro j h
            cases j with
            | zero => rw [List.take_zero]; rfl
            | succ j => rw [List.take_succ_cons, Tm.allL] at *; rw [Bool.and_eq_true] at h ⊢; exact ⟨h.1, ihr j h.2⟩
        exact key t k HWT.out
      have TC : Hid (Calls Try.prog 43 #[.agg #[.int .i64 o', .int .i64 n', .string x', .slice ao' a'.length ca']] (wr.alloc b1) fun e w' => ∃ v', e = .returned v' ∧ Own w' (wr.alloc b1).heap.size v' (togL (namesT t[k])) ∧ Below wr.heap.size wr w') :=
        (tn_at W t[k] _ (wr.alloc b1) ⟨_, _, _, _, rfl, hrd⟩ (hWr.trans (hBa.mono hWr.size)) hszk hwk).mono (fun e w' ⟨v', h1, h2, h3⟩ => ⟨v', h1, h2, hBa.trans (h3.mono hBa.size)⟩)
      have UC : Hid (∀ w2 v2, Own w2 (wr.alloc b1).heap.size v2 (togL (namesT t[k])) → Below wr.heap.size wr w2 → Calls Try.prog 42 #[.slice ro (togL (namesTL (t.take k))).length cr, v2] w2 fun e w' => ∃ v', e = .returned v' ∧ Own w' w.heap.size v' (togL (namesTL (t.take (k + 1)))) ∧ Below w.heap.size w w' ∧ w'.heap[w.heap.size]? = some (Obj.cells #[.int .i64 o, .string x, .int .i64 m, .slice (some ⟨g, of, none⟩) t.length ct, .slice ao a.length ca] 27)) := by
        intro w2 v2 hO2 hB2
        have hl1 := togL_len (namesTL (t.take k))
        have hl2 := togL_len (namesT t[k])
        have hl3 := namesTL_len (l := t.take k) (fun u _ => namesT_len u)
        have hl4 := Tm.sizeL_take t k
        have hl5 := namesT_len t[k]
        refine (un_at _ v2 _ _ _ _ w.heap.size w2 (owns_below hO hB2) hO2 (names_tog (names_TL hwt')) (names_tog (names_namesT hwk)) (tog_ris _) (tog_ris _) (by omega) (Nat.le_trans hB.size hB2.size)).mono ?_
        rintro e w' ⟨v', rfl, h1, h2⟩
        have hB3 := hB2.trans (h2.mono hB2.size)
        refine ⟨v', rfl, ?_, hB.trans (hB3.mono hB.size), (hB3.block _ (Array.getElem?_eq_some_iff.1 hx).1).trans hx⟩
        rw [namesTL_take t k hlt, ← tog_step2]
        exact h1
      subst hb1
      clear IH HLT HLA HWF HWT HWA QC q0 q1 q2 q3 hrd hO hak hwk hwt' hszk hmem hx hBa
      go_wp2_with (fail)
      refine TC.out.mono ?_
      rintro e w2 ⟨v2, rfl, hO2, hB2⟩
      obtain ⟨ro2, cr2, rfl⟩ := own_val hO2
      go_wp2_with (fail)
      refine (UC.out w2 _ hO2 hB2).mono ?_
      rintro e w3 ⟨v3, rfl, hO3, hB3, hx3⟩
      obtain ⟨ro3, cr3, rfl⟩ := own_val hO3
      clear UC TC hO2 hB2
      go_wp2
      go_roundw
      case rel => exact ⟨k + 1, ro3, cr3, by omega, by go_num, rfl, hO3, hB3, hx3⟩
      case measure => simp [intOf]; omega
    · obtain rfl : k = t.length := by omega
      rw [List.take_length] at hO
      have hO1 : Own wr w.heap.size (.slice ro (togL (namesTL t ++ freeFL false x (a.take 0))).length cr) (togL (namesTL t ++ freeFL false x (a.take 0))) := by
        rw [List.take_zero, freeFL, List.append_nil]; exact hO
      have HL0 : Hid (togL (namesTL t) = togL (namesTL t ++ freeFL false x (a.take 0))) := by show _ = _; rw [List.take_zero, freeFL, List.append_nil]
      have hx4 := cells_at hx 4 _ rfl
      rw [List.take_length]
      go_wp2
      obtain ⟨wv, hwv⟩ : ∃ wv, wv = wr := ⟨_, rfl⟩
      subst hwv
      go_loopw [2, 3, 25] (fun v wd i wr => ∃ (k : Nat) (ro : Option Addr) (cr : Nat), k ≤ a.length ∧ i = .int .i64 k ∧ wd = .int .i64 (widFL (a.take k) : Nat) ∧ v = .slice ro (togL (namesTL t ++ freeFL false x (a.take k))).length cr ∧ Own wr w.heap.size (.slice ro (togL (namesTL t ++ freeFL false x (a.take k))).length cr) (togL (namesTL t ++ freeFL false x (a.take k))) ∧ Below w.heap.size w wr ∧ wr.heap[w.heap.size]? = some (Obj.cells #[.int .i64 o, .string x, .int .i64 m, .slice bo t.length ct, .slice ao a.length ca] 27)) (fun _ _ i _ => a.length - (intOf i).toNat)
      case atStart => exact ⟨0, ro, cr, Nat.zero_le _, rfl, by rw [List.take_zero, widFL]; rfl, by rw [← HL0.out], hO1, hB, hx⟩
      case round =>
        clear hO hO1 hB hx hx4 HL0
        obtain ⟨k, ro, cr, hk, rfl, rfl, rfl, hO, hB, hx⟩ := hrel
        by_cases hlt : k < a.length
        · have hWr : Below W.heap.size W wr := hW.trans (hB.mono hW.size)
          obtain ⟨g, of, d0, d1, d2, d3, d4, rfl, hg, q0, q1, q2, q3, q4, hrd⟩ := HLA.out.get k hlt
          rw [Nat.zero_add] at q0 q1 q2 q3 q4
          obtain ⟨⟨o', x', m', t', a'⟩, hak⟩ : ∃ u, a[k] = u := ⟨_, rfl⟩
          have hrd2 := hrd
          rw [hak, RdF] at hrd2
          obtain ⟨rfl, rfl, rfl, hbd', ⟨bo', ct', rfl, -⟩, ao', ca', rfl, -⟩ := hrd2
          have p0 := (hWr.cell (p := ⟨g, of + k * 5, none⟩) hg).trans q0
          have p1 := (hWr.cell (p := ⟨g, of + k * 5 + 1, none⟩) hg).trans q1
          have p2 := (hWr.cell (p := ⟨g, of + k * 5 + 2, none⟩) hg).trans q2
          have p3 := (hWr.cell (p := ⟨g, of + k * 5 + 3, none⟩) hg).trans q3
          have p4 := (hWr.cell (p := ⟨g, of + k * 5 + 4, none⟩) hg).trans q4
          obtain ⟨b1, hb1⟩ : ∃ b, Obj.cells #[.int .i64 o', .string x', .int .i64 m', .slice bo' t'.length ct', .slice ao' a'.length ca'] 27 = b := ⟨_, rfl⟩
          have hBa : Below wr.heap.size wr (wr.alloc b1) := (Below.refl _ _).alloc (Nat.le_refl _) _
          have hmem : a[k] ∈ a := List.getElem_mem hlt
          have hwk := allFL_get HWA.out hmem
          have hszk : a[k].size ≤ 500 := Nat.le_trans (Fm.size_mem hmem) hsa
          have FC : Hid (Calls Try.prog 26 #[.agg #[.int .i64 o', .string x', .int .i64 m', .slice bo' t'.length ct', .slice ao' a'.length ca']] (wr.alloc b1) fun e w' => ∃ v', e = .returned (.tuple #[v', .int .i64 (widF a[k] : Nat)]) ∧ Own w' (wr.alloc b1).heap.size v' (freeF a[k]) ∧ Below wr.heap.size wr w') :=
            (IH.out a[k] hmem _ (wr.alloc b1) ⟨_, _, _, _, _, rfl, hrd⟩ (hWr.trans (hBa.mono hWr.size)) hszk hwk).mono (fun e w' ⟨v', h1, h2, h3⟩ => ⟨v', h1, h2, hBa.trans (h3.mono hBa.size)⟩)
          have UC : Hid (∀ w2 v2, Own w2 (wr.alloc b1).heap.size v2 (freeF a[k]) → Below wr.heap.size wr w2 → Calls Try.prog 42 #[.slice ro (togL (namesTL t ++ freeFL false x (a.take k))).length cr, v2] w2 fun e w' => ∃ v', e = .returned v' ∧ Own w' w.heap.size v' (togL (namesTL t ++ freeFL false x (a.take (k + 1)))) ∧ Below w.heap.size w w' ∧ w'.heap[w.heap.size]? = some (Obj.cells #[.int .i64 o, .string x, .int .i64 m, .slice bo t.length ct, .slice (some ⟨g, of, none⟩) a.length ca] 27)) := by
            intro w2 v2 hO2 hB2
            have hl1 := togL_len (namesTL t ++ freeFL false x (a.take k))
            have hl3 := namesTL_len (l := t) (fun u _ => namesT_len u)
            have hl6 := freeFL_len (q := false) (x := x) (l := a.take k) (fun u _ => freeF_len u)
            have hl4 := Fm.sizeL_take a k
            have hl5 := freeF_len a[k]
            rw [List.length_append] at hl1
            refine (un_at _ v2 _ _ _ _ w.heap.size w2 (owns_below hO hB2) hO2 (names_tog (names_app (names_TL HWT.out) (names_FL (allFL_take a k HWA.out)))) (names_F _ hwk) (tog_ris _) (free_ris _) (by omega) (Nat.le_trans hB.size hB2.size)).mono ?_
            rintro e w' ⟨v', rfl, h1, h2⟩
            have hB3 := hB2.trans (h2.mono hB2.size)
            refine ⟨v', rfl, ?_, hB.trans (hB3.mono hB.size), (hB3.block _ (Array.getElem?_eq_some_iff.1 hx).1).trans hx⟩
            rw [freeFL_take false x a k hlt, filt_false, ← List.append_assoc, ← tog_step]
            exact h1
          have HW : Hid (widFL (a.take (k + 1)) = max (widFL (a.take k)) (widF a[k])) := widFL_take a k hlt
          subst hb1
          clear IH HLT HLA HWF HWT HWA QC q0 q1 q2 q3 q4 hrd hO hak hwk hszk hmem hx hBa
          generalize widF a[k] = pw at *
          generalize widFL (a.take k) = pk at *
          go_wp2_with (fail)
          refine FC.out.mono ?_
          rintro e w2 ⟨v2, rfl, hO2, hB2⟩
          obtain ⟨ro2, cr2, rfl⟩ := own_val hO2
          go_wp2_with (fail)
          refine (UC.out w2 _ hO2 hB2).mono ?_
          rintro e w3 ⟨v3, rfl, hO3, hB3, hx3⟩
          obtain ⟨ro3, cr3, rfl⟩ := own_val hO3
          clear UC FC hO2 hB2
          go_wp2
          all_goals
            go_roundw
            case rel => exact ⟨k + 1, ro3, cr3, by omega, by go_num, int_val (by rw [HW.out]; omega), rfl, hO3, hB3, hx3⟩
            case measure => simp [intOf]; omega
        · obtain rfl : k = a.length := by omega
          rw [List.take_length] at hO
          rw [List.take_length]
          have x0 := cells_at hx 0 _ rfl
          have x1 := cells_at hx 1 _ rfl
          have hlL := togL_len (namesTL t ++ freeFL false x a)
          have hl3 := namesTL_len (l := t) (fun u _ => namesT_len u)
          have hl6 := freeFL_len (q := false) (x := x) (l := a) (fun u _ => freeF_len u)
          rw [List.length_append] at hlL
          have HWD : Hid (widF (.mk o x m t a) = max (freeF (.mk o x m t a)).length (widFL a)) := by show _ = _; rw [widF]
          cases hq : quant o with
          | false =>
            have HE : Hid (freeF (.mk o x m t a) = togL (namesTL t ++ freeFL false x a)) := free_plain hq
            rw [hq] at QC
            generalize togL (namesTL t ++ freeFL false x a) = L at *
            clear IH HLT HLA HWF HWT HWA
            go_wp2_with (go_at_call 41; refine (QC.out _).mono ?_; rintro e w2 ⟨rfl, rfl⟩)
            all_goals
              go_ret2
              exact ⟨_, ret_two (by rw [HWD.out, HE.out]; omega), by rw [HE.out]; exact hO, hB⟩
          | true =>
            rw [hq] at QC
            have WC : Hid (Calls Try.prog 44 #[.slice ro (togL (namesTL t ++ freeFL false x a)).length cr, .string x] wr fun e w' => ∃ v', e = .returned v' ∧ Own w' w.heap.size v' (freeF (.mk o x m t a)) ∧ Below w.heap.size w w') := by
              refine (without_at w.heap.size _ (togL (namesTL t ++ freeFL false x a)) x wr hO (by omega) (tog_ris _) hB.size).mono ?_
              rintro e w' ⟨v', R, rfl, h1, h2, h3, h4⟩
              have := free_bound (R := R) HWF.out hq h2 h3
              subst this
              exact ⟨v', rfl, h1, hB.trans h4⟩
            have hlf := freeF_len (.mk o x m t a)
            rw [Fm.size] at hlf
            generalize togL (namesTL t ++ freeFL false x a) = L at *
            obtain ⟨R, hR⟩ : ∃ R, freeF (.mk o x m t a) = R := ⟨_, rfl⟩
            rw [hR] at WC HWD hlf
            have HR : Hid (freeF (.mk o x m t a) = R) := hR
            clear hR
            clear IH HLT HLA HWF HWT HWA
            go_wp2_with (go_at_call 41; refine (QC.out _).mono ?_; rintro e w2 ⟨rfl, rfl⟩)
            refine WC.out.mono ?_
            rintro e w3 ⟨v', rfl, hO3, hB3⟩
            obtain ⟨ro3, cr3, rfl⟩ := own_val hO3
            go_wp2
            all_goals
              go_ret2
              exact ⟨.slice ro3 R.length cr3, ret_two (by rw [HWD.out]; omega), by rw [HR.out]; exact hO3, hB3⟩
end Go.Proofs.Ytiihabecncnbcaa.Gl
/- Free, Widest. -/
namespace Go.Proofs.Ytiihabecncnbcaa.Gl
open Go.RowKit Go.Shelf
set_option linter.unusedVariables false

theorem fr_no {f : Fm} (h : ¬ chk nmB f = 0) : frOf f = [] := by unfold frOf; rw [if_neg h]
theorem fr_yes {f : Fm} (h : chk nmB f = 0) : frOf f = freeF f := by unfold frOf; rw [if_pos h]
set_option maxHeartbeats 2000000 in
theorem free_run (W : World) (f : Fm) (v : Value) (w : World) (hv : FmV W f v) (hW : Below W.heap.size W w) :
    Calls Try.prog 10 #[v] w fun e w' => ∃ v', e = .returned (.tuple #[v', .int .i64 (chk nmB f : Nat)]) ∧ w'.ownsRow w.heap.size 9 1 v' (frOf f).length (cellsS (frOf f)) ∧ Below w.heap.size w w' := by
  obtain ⟨o, x, m, bo, n1, c1, ao, n2, c2, rfl, hr⟩ := fm_open hv
  obtain ⟨b, hb⟩ : ∃ b, Obj.cells #[.int .i64 o, .string x, .int .i64 m, .slice bo n1 c1, .slice ao n2 c2] 27 = b := ⟨_, rfl⟩
  have hB1 : Below w.heap.size w (w.alloc b) := (Below.refl _ _).alloc (Nat.le_refl _) _
  have hn1 : (w.alloc b).heap[w.heap.size]? = some b := World.alloc_heap_new w b
  have RC : Hid (Calls Try.prog 16 #[.agg #[.int .i64 o, .string x, .int .i64 m, .slice bo n1 c1, .slice ao n2 c2]] (w.alloc b) fun e w' => e = .returned (.int .i64 (chk nmB f : Nat)) ∧ Below w.heap.size w w' ∧ w'.heap[w.heap.size]? = some b) :=
    (check_run W f _ (w.alloc b) hv (hW.trans (hB1.mono hW.size))).mono (fun e w' h => ⟨h.1, hB1.trans (h.2.mono hB1.size), (h.2.block _ (by simp)).trans hn1⟩)
  by_cases hk : chk nmB f = 0
  · obtain ⟨hz1, hz2, hz3⟩ := (chk_iff nmB f).1 hk
    have FC : Hid (∀ w2, Below w.heap.size w w2 → Calls Try.prog 26 #[.agg #[.int .i64 o, .string x, .int .i64 m, .slice bo n1 c1, .slice ao n2 c2]] w2 fun e w' => ∃ v', e = .returned (.tuple #[v', .int .i64 (widF f : Nat)]) ∧ Own w' w.heap.size v' (freeF f) ∧ Below w.heap.size w w') :=
      fun w2 hB => (free_at W f _ w2 hv (hW.trans (hB.mono hW.size)) hz1 hz3).mono (fun e w' ⟨v', h1, h2, h3⟩ => ⟨v', h1, owns_mono h2 hB.size, hB.trans (h3.mono hB.size)⟩)
    rw [hk] at RC ⊢
    rw [fr_yes hk]
    generalize freeF f = R at *
    generalize widF f = wd at *
    subst hb
    clear hv hr hn1 hB1
    go_enter Try.func10, Try.ntmps10
    go_wp2_with (fail)
    refine RC.out.mono ?_
    rintro e w2 ⟨rfl, hB2, hbx⟩
    have q0 : w2.cell? ⟨w.heap.size, 0, none⟩ = some (.int .i64 o) := cells_at hbx 0 _ rfl
    have q1 : w2.cell? ⟨w.heap.size, 1, none⟩ = some (.string x) := cells_at hbx 1 _ rfl
    have q2 : w2.cell? ⟨w.heap.size, 2, none⟩ = some (.int .i64 m) := cells_at hbx 2 _ rfl
    have q3 : w2.cell? ⟨w.heap.size, 3, none⟩ = some (.slice bo n1 c1) := cells_at hbx 3 _ rfl
    have q4 : w2.cell? ⟨w.heap.size, 4, none⟩ = some (.slice ao n2 c2) := cells_at hbx 4 _ rfl
    go_wp2_with (fail)
    refine (FC.out w2 hB2).mono ?_
    rintro e w3 ⟨v', rfl, hO3, hB3⟩
    obtain ⟨ro, cr, rfl⟩ := own_val hO3
    go_wp2
    go_ret2
    exact ⟨_, rfl, hO3, hB3⟩
  · rw [fr_no hk]
    generalize chk nmB f = r at *
    have hk' : ¬ (r : Int) = 0 := by omega
    subst hb
    clear hv hr hn1 hB1
    go_enter Try.func10, Try.ntmps10
    go_wp2_with (fail)
    refine RC.out.mono ?_
    rintro e w2 ⟨rfl, hB2, hbx⟩
    go_wp2
    go_ret2
    exact ⟨_, rfl, World.ownsRow_nil .., hB2⟩
set_option maxHeartbeats 2000000 in
theorem widest_run (W : World) (f : Fm) (v : Value) (w : World) (hv : FmV W f v) (hW : Below W.heap.size W w) :
    Calls Try.prog 21 #[v] w fun e w' => e = .returned (.tuple #[.int .i64 (ok0 f (widF f) : Nat), .int .i64 (chk nmB f : Nat)]) ∧ Below w.heap.size w w' := by
  obtain ⟨o, x, m, bo, n1, c1, ao, n2, c2, rfl, hr⟩ := fm_open hv
  obtain ⟨b, hb⟩ : ∃ b, Obj.cells #[.int .i64 o, .string x, .int .i64 m, .slice bo n1 c1, .slice ao n2 c2] 27 = b := ⟨_, rfl⟩
  have hB1 : Below w.heap.size w (w.alloc b) := (Below.refl _ _).alloc (Nat.le_refl _) _
  have hn1 : (w.alloc b).heap[w.heap.size]? = some b := World.alloc_heap_new w b
  have RC : Hid (Calls Try.prog 16 #[.agg #[.int .i64 o, .string x, .int .i64 m, .slice bo n1 c1, .slice ao n2 c2]] (w.alloc b) fun e w' => e = .returned (.int .i64 (chk nmB f : Nat)) ∧ Below w.heap.size w w' ∧ w'.heap[w.heap.size]? = some b) :=
    (check_run W f _ (w.alloc b) hv (hW.trans (hB1.mono hW.size))).mono (fun e w' h => ⟨h.1, hB1.trans (h.2.mono hB1.size), (h.2.block _ (by simp)).trans hn1⟩)
  by_cases hk : chk nmB f = 0
  · obtain ⟨hz1, hz2, hz3⟩ := (chk_iff nmB f).1 hk
    have FC : Hid (∀ w2, Below w.heap.size w w2 → Calls Try.prog 26 #[.agg #[.int .i64 o, .string x, .int .i64 m, .slice bo n1 c1, .slice ao n2 c2]] w2 fun e w' => ∃ v', e = .returned (.tuple #[v', .int .i64 (widF f : Nat)]) ∧ Own w' w.heap.size v' (freeF f) ∧ Below w.heap.size w w') :=
      fun w2 hB => (free_at W f _ w2 hv (hW.trans (hB.mono hW.size)) hz1 hz3).mono (fun e w' ⟨v', h1, h2, h3⟩ => ⟨v', h1, owns_mono h2 hB.size, hB.trans (h3.mono hB.size)⟩)
    rw [hk] at RC ⊢
    rw [ok0_yes hk]
    generalize freeF f = R at *
    generalize widF f = wd at *
    subst hb
    clear hv hr hn1 hB1
    go_enter Try.func21, Try.ntmps21
    go_wp2_with (fail)
    refine RC.out.mono ?_
    rintro e w2 ⟨rfl, hB2, hbx⟩
    have q0 : w2.cell? ⟨w.heap.size, 0, none⟩ = some (.int .i64 o) := cells_at hbx 0 _ rfl
    have q1 : w2.cell? ⟨w.heap.size, 1, none⟩ = some (.string x) := cells_at hbx 1 _ rfl
    have q2 : w2.cell? ⟨w.heap.size, 2, none⟩ = some (.int .i64 m) := cells_at hbx 2 _ rfl
    have q3 : w2.cell? ⟨w.heap.size, 3, none⟩ = some (.slice bo n1 c1) := cells_at hbx 3 _ rfl
    have q4 : w2.cell? ⟨w.heap.size, 4, none⟩ = some (.slice ao n2 c2) := cells_at hbx 4 _ rfl
    go_wp2_with (fail)
    refine (FC.out w2 hB2).mono ?_
    rintro e w3 ⟨v', rfl, hO3, hB3⟩
    obtain ⟨ro, cr, rfl⟩ := own_val hO3
    go_wp2
    go_ret2
    exact ⟨rfl, hB3⟩
  · rw [ok0_no hk]
    generalize chk nmB f = r at *
    have hk' : ¬ (r : Int) = 0 := by omega
    subst hb
    clear hv hr hn1 hB1
    go_enter Try.func21, Try.ntmps21
    go_wp2_with (fail)
    refine RC.out.mono ?_
    rintro e w2 ⟨rfl, hB2, hbx⟩
    go_wp2
    go_ret2
    exact ⟨rfl, hB2⟩
end Go.Proofs.Ytiihabecncnbcaa.Gl
