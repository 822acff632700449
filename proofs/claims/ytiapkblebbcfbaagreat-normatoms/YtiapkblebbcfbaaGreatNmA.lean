/- Terms worked out to sums, atoms in normal form: plain mathematics. -/
import Derived.Test.YtiapkblebbcfbaaGreatGlMe
import Derived.Test.YtiapkblebbcfbaaGreatTrB
import Derived.Test.YtiapkblebbcfbaaGreatTotal
namespace Go.Proofs.YtiapkblebbcfbaaGreat.Gl
set_option linter.unusedVariables false

def in64 (z : Int) : Bool := decide (-9223372036854775808 ≤ z) && decide (z ≤ 9223372036854775807)
theorem in64_iff (z : Int) : in64 z = true ↔ -9223372036854775808 ≤ z ∧ z ≤ 9223372036854775807 := by simp [in64]
theorem in64_not (z : Int) : in64 z = false ↔ ¬ (-9223372036854775808 ≤ z ∧ z ≤ 9223372036854775807) := by
  rw [← in64_iff]; simp
/-- a sum: names, a coefficient for each, a constant -/
structure Sm where
  ns : List ByteArray
  cs : List Int
  k : Int
/-- the coefficient of a name -/
def cof (s : ByteArray) : List ByteArray → List Int → Int
  | n :: ns, c :: cs => if (n.toList == s.toList) = true then c else cof s ns cs
  | _, _ => 0
inductive Lr where
  | ok (s : Sm)
  | er (e : Nat)
def Sm.fits (s : Sm) : Bool := s.cs.all in64 && in64 s.k
def mkS (s : Sm) : Lr := if s.fits = true then .ok s else .er 91
def cmb (op : Int → Int → Int) (a b : Sm) : Sm := ⟨togL (a.ns ++ b.ns), (togL (a.ns ++ b.ns)).map (fun s => op (cof s a.ns a.cs) (cof s b.ns b.cs)), op a.k b.k⟩
def scl (s : Sm) (n : Int) : Sm := ⟨s.ns, s.cs.map (fun c => c * n), s.k * n⟩
def prdS (p q : Sm) : Lr := if q.ns.length = 0 then mkS (scl p q.k) else if p.ns.length = 0 then mkS (scl q p.k) else .er 90
def nilS : Sm := ⟨[], [], 0⟩
def linN (o n : Int) (x : ByteArray) (rs : List Lr) : Lr :=
  if o = 0 then mkS ⟨[], [], n⟩
  else if o = 1 then .ok ⟨[x], [1], 0⟩
  else match rs with
    | .ok p :: rest => if o = 2 then mkS (cmb (fun a b => a - b) nilS p) else
      match rest with
      | .ok q :: _ => if o = 3 then mkS (cmb (fun a b => a + b) p q) else if o = 4 then mkS (cmb (fun a b => a - b) p q) else prdS p q
      | .er e :: _ => .er e
      | [] => .er 0
    | .er e :: _ => .er e
    | [] => .er 0
mutual
def lin : Tm → Lr | .mk o n x a => linN o n x (linL a)
def linL : List Tm → List Lr | [] => [] | t :: r => lin t :: linL r
end
theorem lin_num (n : Int) (x : ByteArray) (a : List Tm) : lin (.mk 0 n x a) = mkS ⟨[], [], n⟩ := by rw [lin]; unfold linN; rw [if_pos rfl]
theorem lin_name (n : Int) (x : ByteArray) (a : List Tm) : lin (.mk 1 n x a) = .ok ⟨[x], [1], 0⟩ := by rw [lin]; unfold linN; rw [if_neg (by decide), if_pos rfl]
theorem lin_neg (n : Int) (x : ByteArray) (t : Tm) : lin (.mk 2 n x [t]) = match lin t with | .ok p => mkS (cmb (fun a b => a - b) nilS p) | .er e => .er e := by
  rw [lin]; unfold linN; rw [if_neg (by decide), if_neg (by decide), linL, linL]
  cases lin t <;> rfl
theorem lin_two {o : Int} (ho : o = 3 ∨ o = 4 ∨ o = 5) (n : Int) (x : ByteArray) (t u : Tm) : lin (.mk o n x [t, u]) = match lin t with | .er e => .er e | .ok p => match lin u with | .er e => .er e | .ok q => if o = 3 then mkS (cmb (fun a b => a + b) p q) else if o = 4 then mkS (cmb (fun a b => a - b) p q) else prdS p q := by
  rw [lin]; unfold linN; rw [if_neg (by omega), if_neg (by omega), linL, linL, linL]
  cases lin t with
  | er e => rfl
  | ok p =>
    show (if o = 2 then _ else _) = _
    rw [if_neg (by omega)]
    cases lin u <;> rfl
/-- a right node's shape -/
theorem wt_shape {nm : ByteArray → Bool} {o n : Int} {x : ByteArray} {a : List Tm} (h : wellT nm (.mk o n x a) = true) :
    (o = 0 ∧ 0 ≤ n ∧ x = emp ∧ a = []) ∨ (o = 1 ∧ n = 0 ∧ nm x = true ∧ a = []) ∨ (o = 2 ∧ n = 0 ∧ x = emp ∧ ∃ t, a = [t]) ∨ ((o = 3 ∨ o = 4 ∨ o = 5) ∧ n = 0 ∧ x = emp ∧ ∃ t u, a = [t, u]) := by
  have hx : (x.toList == []) = true → x = emp := fun e => toList_inj (by rw [beq_iff_eq] at e; rw [e]; decide +kernel)
  have h1 : a.length = 1 → ∃ t, a = [t] := fun e => by
    cases a with
    | nil => cases e
    | cons t r => cases r with
      | nil => exact ⟨t, rfl⟩
      | cons _ _ => simp at e
  have h2 : a.length = 2 → ∃ t u, a = [t, u] := fun e => by
    cases a with
    | nil => cases e
    | cons t r => cases r with
      | nil => simp at e
      | cons u r => cases r with
        | nil => exact ⟨t, u, rfl⟩
        | cons _ _ => simp at e
  replace h : wT nm o n x a.length = true := h
  unfold wT at h
  split at h
  · simp only [Bool.and_eq_true, decide_eq_true_eq, List.length_eq_zero_iff] at h
    exact .inl ⟨‹_›, h.1.1, hx h.1.2, h.2⟩
  · split at h
    · simp only [Bool.and_eq_true, decide_eq_true_eq, List.length_eq_zero_iff] at h
      exact .inr (.inl ⟨‹_›, h.1.1, h.1.2, h.2⟩)
    · split at h
      · simp only [Bool.and_eq_true, decide_eq_true_eq] at h
        exact .inr (.inr (.inl ⟨‹_›, h.1.1, hx h.1.2, h1 h.2⟩))
      · split at h
        · simp only [Bool.and_eq_true, decide_eq_true_eq] at h
          exact .inr (.inr (.inr ⟨‹_›, h.1.1, hx h.1.2, h2 h.2⟩))
        · cases h
theorem wt_ind {nm : ByteArray → Bool} {P : Tm → Prop} (h0 : ∀ n, 0 ≤ n → P (.mk 0 n emp [])) (h1 : ∀ x, nm x = true → P (.mk 1 0 x [])) (h2 : ∀ t, t.all (wellT nm) = true → P t → P (.mk 2 0 emp [t]))
    (h3 : ∀ o t u, (o = 3 ∨ o = 4 ∨ o = 5) → t.all (wellT nm) = true → u.all (wellT nm) = true → P t → P u → P (.mk o 0 emp [t, u])) : ∀ t, t.all (wellT nm) = true → P t := by
  intro t
  induction t using Tm.ind with
  | h o n x a ih =>
    intro h
    rw [Tm.all, Bool.and_eq_true] at h
    rcases wt_shape h.1 with ⟨rfl, k, rfl, rfl⟩ | ⟨rfl, rfl, k, rfl⟩ | ⟨rfl, rfl, rfl, t, rfl⟩ | ⟨ho, rfl, rfl, t, u, rfl⟩
    · exact h0 n k
    · exact h1 x k
    · have k := h.2
      simp only [Tm.allL, Bool.and_true] at k
      exact h2 t k (ih t (List.mem_cons_self ..) k)
    · have k := h.2
      simp only [Tm.allL, Bool.and_true, Bool.and_eq_true] at k
      exact h3 o t u ho k.1 k.2 (ih t (List.mem_cons_self ..) k.1) (ih u (List.mem_cons_of_mem _ (List.mem_cons_self ..)) k.2)
/-- a sum stands right -/
structure Sm.good (nm : ByteArray → Bool) (s : Sm) (m : Nat) : Prop where
  len : s.cs.length = s.ns.length
  ris : Ris s.ns
  nms : ∀ x ∈ s.ns, nm x = true
  few : s.ns.length ≤ m
  fit : s.fits = true
theorem Sm.good.mono {nm : ByteArray → Bool} {s : Sm} {m m' : Nat} (h : s.good nm m) (k : m ≤ m') : s.good nm m' := ⟨h.len, h.ris, h.nms, Nat.le_trans h.few k, h.fit⟩
theorem Sm.fits.k {s : Sm} (h : s.fits = true) : -9223372036854775808 ≤ s.k ∧ s.k ≤ 9223372036854775807 := by
  unfold Sm.fits at h; rw [Bool.and_eq_true] at h; exact (in64_iff _).1 h.2
theorem Sm.fits.c {s : Sm} (h : s.fits = true) : ∀ c ∈ s.cs, -9223372036854775808 ≤ c ∧ c ≤ 9223372036854775807 := by
  unfold Sm.fits at h; rw [Bool.and_eq_true, List.all_eq_true] at h; exact fun c hc => (in64_iff _).1 (h.1 c hc)
theorem mkS_ok {s r : Sm} (h : mkS s = .ok r) : r = s ∧ s.fits = true := by
  unfold mkS at h
  split at h
  · cases h; exact ⟨rfl, ‹_›⟩
  · cases h
theorem cof_in {Q : Int → Prop} (h0 : Q 0) (s : ByteArray) : ∀ (ns : List ByteArray) (cs : List Int), (∀ c ∈ cs, Q c) → Q (cof s ns cs)
  | [], _, _ => by rw [cof]; exact h0; simp
  | _ :: _, [], _ => by rw [cof]; exact h0; simp
  | n :: ns, c :: cs, h => by
    rw [cof]
    split
    · exact h c (List.mem_cons_self ..)
    · exact cof_in h0 s ns cs (fun d hd => h d (List.mem_cons_of_mem _ hd))
theorem cmb_good {nm : ByteArray → Bool} {op : Int → Int → Int} {a b : Sm} {m n : Nat} (ha : a.good nm m) (hb : b.good nm n) (hf : (cmb op a b).fits = true) : (cmb op a b).good nm (m + n) := by
  refine ⟨by simp [cmb], tog_ris _, fun x hx => ?_, ?_, hf⟩
  · have := (tog_mem _ _).1 hx
    rcases List.mem_append.1 this with h | h
    · exact ha.nms x h
    · exact hb.nms x h
  · have := tog_length (a.ns ++ b.ns)
    have h1 := ha.few
    have h2 := hb.few
    rw [List.length_append] at this
    show (togL (a.ns ++ b.ns)).length ≤ _
    omega
theorem scl_good {nm : ByteArray → Bool} {a : Sm} {m : Nat} {n : Int} (ha : a.good nm m) (hf : (scl a n).fits = true) : (scl a n).good nm m :=
  ⟨by simp [scl, ha.len], ha.ris, ha.nms, ha.few, hf⟩
theorem nilS_good (nm : ByteArray → Bool) : nilS.good nm 0 := ⟨rfl, List.Pairwise.nil, (fun x hx => by cases hx), Nat.le_refl _, by decide⟩
theorem lin_good (nm : ByteArray → Bool) : ∀ t, t.all (wellT nm) = true → ∀ s, lin t = .ok s → s.good nm t.size := by
  refine wt_ind ?_ ?_ ?_ ?_
  · intro n hn s hs
    rw [lin_num] at hs
    obtain ⟨rfl, hf⟩ := mkS_ok hs
    exact ⟨rfl, List.Pairwise.nil, (fun x hx => by cases hx), by simp, hf⟩
  · intro x hx s hs
    rw [lin_name] at hs
    cases hs
    exact ⟨rfl, by simp [Ris], (fun y hy => by rw [List.mem_singleton] at hy; subst hy; exact hx), by simp [Tm.size, Tm.sizeL], (by show ([(1 : Int)].all in64 && in64 0) = true; decide)⟩
  · intro t ht ih s hs
    rw [lin_neg] at hs
    cases hl : lin t with
    | er e => rw [hl] at hs; cases hs
    | ok p =>
      rw [hl] at hs
      obtain ⟨rfl, hf⟩ := mkS_ok hs
      exact (cmb_good (nilS_good nm) (ih p hl) hf).mono (by simp [Tm.size, Tm.sizeL])
  · intro o t u ho ht hu iht ihu s hs
    rw [lin_two ho] at hs
    cases hl : lin t with
    | er e => rw [hl] at hs; cases hs
    | ok p =>
      cases hm : lin u with
      | er e => rw [hl, hm] at hs; cases hs
      | ok q =>
        rw [hl, hm] at hs
        dsimp only at hs
        have hz : t.size + u.size ≤ (Tm.mk o 0 emp [t, u]).size := by simp [Tm.size, Tm.sizeL]
        split at hs
        · obtain ⟨rfl, hf⟩ := mkS_ok hs
          exact (cmb_good (iht p hl) (ihu q hm) hf).mono hz
        · split at hs
          · obtain ⟨rfl, hf⟩ := mkS_ok hs
            exact (cmb_good (iht p hl) (ihu q hm) hf).mono hz
          · unfold prdS at hs
            split at hs
            · obtain ⟨rfl, hf⟩ := mkS_ok hs
              exact (scl_good (iht p hl) hf).mono (by omega)
            · split at hs
              · obtain ⟨rfl, hf⟩ := mkS_ok hs
                exact (scl_good (ihu q hm) hf).mono (by omega)
              · cases hs
/- what a sum is worth -/
def dot (ev : ByteArray → Int) : List ByteArray → List Int → Int
  | n :: ns, c :: cs => c * ev n + dot ev ns cs
  | _, _ => 0
def sumS (f : ByteArray → Int) : List ByteArray → Int
  | [] => 0
  | n :: ns => f n + sumS f ns
theorem dot_map (ev f : ByteArray → Int) : ∀ ns : List ByteArray, dot ev ns (ns.map f) = sumS (fun s => f s * ev s) ns
  | [] => by rw [List.map_nil, dot, sumS]; simp
  | n :: ns => by rw [List.map_cons, dot, sumS, dot_map ev f ns]
theorem sumS_add (f g : ByteArray → Int) : ∀ ns, sumS (fun s => f s + g s) ns = sumS f ns + sumS g ns
  | [] => by simp [sumS]
  | n :: ns => by rw [sumS, sumS, sumS, sumS_add f g ns]; omega
theorem sumS_sub (f g : ByteArray → Int) : ∀ ns, sumS (fun s => f s - g s) ns = sumS f ns - sumS g ns
  | [] => by simp [sumS]
  | n :: ns => by rw [sumS, sumS, sumS, sumS_sub f g ns]; omega
theorem sumS_congr {f g : ByteArray → Int} : ∀ {ns : List ByteArray}, (∀ s ∈ ns, f s = g s) → sumS f ns = sumS g ns
  | [], _ => rfl
  | n :: ns, h => by rw [sumS, sumS, h n (List.mem_cons_self ..), sumS_congr (fun s hs => h s (List.mem_cons_of_mem _ hs))]
theorem sumS_none (n : ByteArray) (v : Int) (f : ByteArray → Int) : ∀ ns : List ByteArray, n ∉ ns → sumS (fun s => if (n.toList == s.toList) = true then v else f s) ns = sumS f ns
  | [], _ => rfl
  | m :: ns, h => by
    rw [sumS, sumS, sumS_none n v f ns (fun k => h (List.mem_cons_of_mem _ k)), if_neg]
    intro e
    exact h (by rw [(eqS_iff n m).1 e]; exact List.mem_cons_self ..)
theorem sumS_one (n : ByteArray) (v : Int) (f : ByteArray → Int) (hf : f n = 0) : ∀ ns : List ByteArray, ns.Nodup → n ∈ ns → sumS (fun s => if (n.toList == s.toList) = true then v else f s) ns = v + sumS f ns
  | m :: ns, hd, hm => by
    rw [List.nodup_cons] at hd
    rw [sumS, sumS]
    by_cases e : n = m
    · subst e
      rw [sumS_none n v f ns hd.1, if_pos ((eqS_iff n n).2 rfl), hf]
      omega
    · rw [sumS_one n v f hf ns hd.2 ((List.mem_cons.1 hm).resolve_left e), if_neg (fun k => e ((eqS_iff n m).1 k))]
      omega
theorem cof_none (s : ByteArray) : ∀ (ns : List ByteArray) (cs : List Int), s ∉ ns → cof s ns cs = 0
  | [], _, _ => by rw [cof]; simp
  | _ :: _, [], _ => by rw [cof]; simp
  | n :: ns, c :: cs, h => by
    rw [cof, if_neg (fun k => h (by rw [(eqS_iff n s).1 k]; exact List.mem_cons_self ..))]
    exact cof_none s ns cs (fun k => h (List.mem_cons_of_mem _ k))
theorem sumS_zero (ev : ByteArray → Int) : ∀ ns, sumS (fun s => 0 * ev s) ns = 0
  | [] => rfl
  | n :: ns => by rw [sumS, sumS_zero ev ns]; omega
theorem dot_cof (ev : ByteArray → Int) (L : List ByteArray) (hL : L.Nodup) : ∀ (ns : List ByteArray) (cs : List Int), cs.length = ns.length → ns.Nodup → (∀ x ∈ ns, x ∈ L) → sumS (fun s => cof s ns cs * ev s) L = dot ev ns cs
  | [], cs, _, _, _ => by
    rw [sumS_congr (g := fun s => 0 * ev s) (fun s _ => by rw [cof]; simp), sumS_zero, dot]; simp
  | n :: ns, [], h, _, _ => by cases h
  | n :: ns, c :: cs, h, hd, hs => by
    rw [List.nodup_cons] at hd
    rw [dot, ← dot_cof ev L hL ns cs (by simpa using h) hd.2 (fun x hx => hs x (List.mem_cons_of_mem _ hx)),
      sumS_congr (g := fun s => if (n.toList == s.toList) = true then c * ev n else cof s ns cs * ev s) (fun s _ => by
        rw [cof]
        split
        · rename_i k; rw [(eqS_iff n s).1 k]
        · rfl)]
    exact sumS_one n (c * ev n) (fun s => cof s ns cs * ev s) (by rw [cof_none n ns cs hd.1]; omega) L hL (hs n (List.mem_cons_self ..))
def Sm.val (ev : ByteArray → Int) (s : Sm) : Int := dot ev s.ns s.cs + s.k
theorem cmb_add (ev : ByteArray → Int) {nm : ByteArray → Bool} {a b : Sm} {m n : Nat} (ha : a.good nm m) (hb : b.good nm n) : (cmb (fun a b => a + b) a b).val ev = a.val ev + b.val ev := by
  unfold Sm.val cmb
  dsimp only
  rw [dot_map, sumS_congr (g := fun s => cof s a.ns a.cs * ev s + cof s b.ns b.cs * ev s) (fun s _ => Int.add_mul ..), sumS_add,
    dot_cof ev _ (ris_nodup (tog_ris _)) a.ns a.cs ha.len (ris_nodup ha.ris) (fun x hx => (tog_mem _ _).2 (List.mem_append_left _ hx)),
    dot_cof ev _ (ris_nodup (tog_ris _)) b.ns b.cs hb.len (ris_nodup hb.ris) (fun x hx => (tog_mem _ _).2 (List.mem_append_right _ hx))]
  omega
theorem cmb_sub (ev : ByteArray → Int) {nm : ByteArray → Bool} {a b : Sm} {m n : Nat} (ha : a.good nm m) (hb : b.good nm n) : (cmb (fun a b => a - b) a b).val ev = a.val ev - b.val ev := by
  unfold Sm.val cmb
  dsimp only
  rw [dot_map, sumS_congr (g := fun s => cof s a.ns a.cs * ev s - cof s b.ns b.cs * ev s) (fun s _ => Int.sub_mul ..), sumS_sub,
    dot_cof ev _ (ris_nodup (tog_ris _)) a.ns a.cs ha.len (ris_nodup ha.ris) (fun x hx => (tog_mem _ _).2 (List.mem_append_left _ hx)),
    dot_cof ev _ (ris_nodup (tog_ris _)) b.ns b.cs hb.len (ris_nodup hb.ris) (fun x hx => (tog_mem _ _).2 (List.mem_append_right _ hx))]
  omega
theorem dot_scl (ev : ByteArray → Int) (v : Int) : ∀ (ns : List ByteArray) (cs : List Int), dot ev ns (cs.map (fun c => c * v)) = dot ev ns cs * v
  | [], _ => by rw [dot, dot]; simp; simp; simp
  | n :: ns, [] => by rw [List.map_nil, dot]; simp; simp
  | n :: ns, c :: cs => by rw [List.map_cons, dot, dot, dot_scl ev v ns cs, Int.add_mul, Int.mul_right_comm]
theorem scl_val (ev : ByteArray → Int) (s : Sm) (v : Int) : (scl s v).val ev = s.val ev * v := by
  unfold Sm.val scl
  dsimp only
  rw [dot_scl, Int.add_mul]
/- what a term is worth -/
def evN (ev : ByteArray → Int) (o n : Int) (x : ByteArray) (rs : List Int) : Int :=
  if o = 0 then n else if o = 1 then ev x else match rs with
    | a :: rest => if o = 2 then -a else match rest with
      | b :: _ => if o = 3 then a + b else if o = 4 then a - b else a * b
      | [] => 0
    | [] => 0
mutual
def evT (ev : ByteArray → Int) : Tm → Int | .mk o n x a => evN ev o n x (evL ev a)
def evL (ev : ByteArray → Int) : List Tm → List Int | [] => [] | t :: r => evT ev t :: evL ev r
end
theorem ev_num (ev : ByteArray → Int) (n : Int) (x : ByteArray) (a : List Tm) : evT ev (.mk 0 n x a) = n := by rw [evT]; unfold evN; rw [if_pos rfl]
theorem ev_name (ev : ByteArray → Int) (n : Int) (x : ByteArray) (a : List Tm) : evT ev (.mk 1 n x a) = ev x := by rw [evT]; unfold evN; rw [if_neg (by decide), if_pos rfl]
theorem ev_neg (ev : ByteArray → Int) (n : Int) (x : ByteArray) (t : Tm) : evT ev (.mk 2 n x [t]) = -evT ev t := by
  rw [evT]; unfold evN; rw [if_neg (by decide), if_neg (by decide), evL, evL]; rfl
theorem ev_two (ev : ByteArray → Int) {o : Int} (ho : o = 3 ∨ o = 4 ∨ o = 5) (n : Int) (x : ByteArray) (t u : Tm) : evT ev (.mk o n x [t, u]) = if o = 3 then evT ev t + evT ev u else if o = 4 then evT ev t - evT ev u else evT ev t * evT ev u := by
  rw [evT]; unfold evN; rw [if_neg (by omega), if_neg (by omega), evL, evL, evL]
  show (if o = 2 then _ else _) = _
  rw [if_neg (by omega)]
theorem dot_empty (ev : ByteArray → Int) {s : Sm} (h : s.ns.length = 0) : s.val ev = s.k := by
  have e : s.ns = [] := List.length_eq_zero_iff.1 h
  unfold Sm.val; rw [e, dot]; omega; simp
theorem lin_val (nm : ByteArray → Bool) (ev : ByteArray → Int) : ∀ t, t.all (wellT nm) = true → ∀ s, lin t = .ok s → s.val ev = evT ev t := by
  refine wt_ind ?_ ?_ ?_ ?_
  · intro n hn s hs
    rw [lin_num] at hs
    obtain ⟨rfl, hf⟩ := mkS_ok hs
    rw [ev_num]; exact dot_empty ev rfl
  · intro x hx s hs
    rw [lin_name] at hs
    cases hs
    rw [ev_name]; simp [Sm.val, dot]
  · intro t ht ih s hs
    rw [lin_neg] at hs
    cases hl : lin t with
    | er e => rw [hl] at hs; cases hs
    | ok p =>
      rw [hl] at hs
      obtain ⟨rfl, hf⟩ := mkS_ok hs
      rw [cmb_sub ev (nilS_good nm) (lin_good nm t ht p hl), ev_neg, ih p hl, dot_empty ev (s := nilS) rfl]
      show 0 - _ = _
      omega
  · intro o t u ho ht hu iht ihu s hs
    rw [lin_two ho] at hs
    rw [ev_two ev ho]
    cases hl : lin t with
    | er e => rw [hl] at hs; cases hs
    | ok p =>
      cases hm : lin u with
      | er e => rw [hl, hm] at hs; cases hs
      | ok q =>
        rw [hl, hm] at hs
        dsimp only at hs
        rw [← iht p hl, ← ihu q hm]
        have gp := lin_good nm t ht p hl
        have gq := lin_good nm u hu q hm
        split at hs
        · obtain ⟨rfl, hf⟩ := mkS_ok hs
          rw [if_pos ‹_›]; exact cmb_add ev gp gq
        · rw [if_neg ‹_›]
          split at hs
          · obtain ⟨rfl, hf⟩ := mkS_ok hs
            rw [if_pos ‹_›]; exact cmb_sub ev gp gq
          · rw [if_neg ‹_›]
            unfold prdS at hs
            split at hs
            · obtain ⟨rfl, hf⟩ := mkS_ok hs
              rw [scl_val, dot_empty ev ‹q.ns.length = 0›]
            · split at hs
              · obtain ⟨rfl, hf⟩ := mkS_ok hs
                rw [scl_val, dot_empty ev ‹p.ns.length = 0›, Int.mul_comm]
              · cases hs
/- the sum of absolute values -/
abbrev tot := Chk.tot
/-- an atom in normal form -/
structure Nr where
  kd : Int
  ns : List ByteArray
  cs : List Int
  bd : Int
  md : Int
inductive Ar where
  | ok (n : Nr)
  | er (e : Nat)
def bdOf (o k : Int) : Int := if o = 10 ∨ o = 12 then -k - 1 else -k
def kdOf (o : Int) : Int := if o = 13 ∨ o = 14 then 1 else if o = 15 then 2 else 0
def nrOf (o m : Int) (d : Sm) : Nr := if o = 15 then ⟨2, d.ns, d.cs.map (fun c => c % m), (-d.k) % m, m⟩ else ⟨kdOf o, d.ns, d.cs, bdOf o d.k, m⟩
def tight (n : Nr) : Prop := tot n.cs + n.bd.natAbs ≤ 9223372036854775807
instance (n : Nr) : Decidable (tight n) := by unfold tight; exact inferInstance
def difS (o : Int) (a b : Sm) : Sm := if o = 11 ∨ o = 12 then cmb (fun a b => a - b) b a else cmb (fun a b => a - b) a b
def nrmS (o m : Int) (a b : Sm) : Ar :=
  if (difS o a b).fits = true ∧ in64 (-(difS o a b).k) = true ∧ in64 (bdOf o (difS o a b).k) = true then
    if tight (nrOf o m (difS o a b)) then .ok (nrOf o m (difS o a b)) else .er 91
  else .er 91
def atmS (o m : Int) : List Tm → Ar
  | [s, t] => match lin s with
    | .er e => .er e
    | .ok a => match lin t with
      | .er e => .er e
      | .ok b => nrmS o m a b
  | _ => .er 3
noncomputable def atm (f : Fm) : Ar := if chk nmB f = 0 then (if f.op < 9 then .er 3 else atmS f.op f.mod f.terms) else .er (chk nmB f)
/-- a normal atom is right -/
def nrOk (n : Nr) : Prop := (n.kd = 0 ∨ n.kd = 1 ∨ n.kd = 2) ∧ Rise n.ns ∧ n.cs.length = n.ns.length ∧ tight n ∧ (n.kd ≠ 2 → n.md = 0) ∧ (n.kd = 2 → 1 ≤ n.md ∧ 0 ≤ n.bd ∧ n.bd < n.md ∧ ∀ c ∈ n.cs, 0 ≤ c ∧ c < n.md)
end Go.Proofs.YtiapkblebbcfbaaGreat.Gl
