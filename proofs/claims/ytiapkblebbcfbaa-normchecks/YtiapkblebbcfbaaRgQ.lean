/- A statement whose order is open, by properties of its operations' values: of no program. -/
import Derived.Orders
import Derived.Below
namespace Go.Proofs.Ytiapkblebbcfbaa.Gl
open Go Go.RowKit
set_option linter.unusedVariables false

/-- the frame with these slots written -/
def putR (vs : Nat → Value) : List Nat → Act → Act
  | [], a => a
  | d :: l, a => putR vs l (a.put (some d) (vs d))
/-- where each operation writes -/
def dstsOf (ops : Array Oper) : List Nat := ops.toList.filterMap (·.dst)
/-- what is asked of the operations, told by their text: each writes a slot of its own, none is guarded, each waits for earlier ones alone -/
def rgB (n : Nat) (ops : Array Oper) : Bool :=
  (List.range ops.size).all fun k => match ops[k]? with
    | some o => (match o.dst with | some d => decide (d < n) && (List.range ops.size).all (fun j => decide (j = k) || (match ops[j]? with | some p => decide (p.dst ≠ some d) | none => true)) | none => false) && o.guard.isNone && o.after.all (fun e => decide (e.on < k))
    | none => false
structure Rg (n : Nat) (ops : Array Oper) : Prop where
  dst : ∀ (k : Nat) (o : Oper), ops[k]? = some o → ∃ d, o.dst = some d ∧ d < n
  one : ∀ (k : Nat) (o : Oper) (j : Nat) (p : Oper) (d : Nat), ops[k]? = some o → ops[j]? = some p → o.dst = some d → p.dst = some d → j = k
  guard : ∀ (k : Nat) (o : Oper), ops[k]? = some o → o.guard = none
  lex : ∀ (k : Nat) (o : Oper), ops[k]? = some o → ∀ e ∈ o.after, e.on < k
theorem rg_of {n : Nat} {ops : Array Oper} (h : rgB n ops = true) : Rg n ops := by
  unfold rgB at h
  rw [List.all_eq_true] at h
  have key : ∀ (k : Nat) (o : Oper), ops[k]? = some o → ((match o.dst with | some d => decide (d < n) && (List.range ops.size).all (fun j => decide (j = k) || (match ops[j]? with | some p => decide (p.dst ≠ some d) | none => true)) | none => false) && o.guard.isNone && o.after.all (fun e => decide (e.on < k))) = true := fun k o ho => by
    have := h k (List.mem_range.2 (Array.getElem?_eq_some_iff.1 ho).1)
    rw [ho] at this
    exact this
  refine ⟨fun k o ho => ?_, fun k o j p d ho hp hd hd' => ?_, fun k o ho => ?_, fun k o ho e he => ?_⟩
  · have := key k o ho
    cases hd : o.dst with
    | none => simp [hd] at this
    | some d => simp [hd] at this; exact ⟨d, rfl, this.1.1.1⟩
  · have := key k o ho
    simp only [hd, Bool.and_eq_true, List.all_eq_true] at this
    have h2 := this.1.1.2 j (List.mem_range.2 (Array.getElem?_eq_some_iff.1 hp).1)
    rw [hp] at h2
    simp only [Bool.or_eq_true, decide_eq_true_eq] at h2
    exact h2.resolve_right fun e => e hd'
  · have := key k o ho
    simp only [Bool.and_eq_true] at this
    simpa using this.1.2
  · have := key k o ho
    simp only [Bool.and_eq_true, Array.all_eq_true_iff_forall_mem, decide_eq_true_eq] at this
    exact this.2 e he
/-- what is known on the way -/
structure RgI (ops : Array Oper) (G : Nat → Value → World → Prop) (a0 : Act) (W0 : World) (L : Nat → Prop) (a : Act) (w : World) : Prop where
  def' : a.defers = a0.defers
  size : a.tmps.size = a0.tmps.size
  old : ∀ t, t ∉ dstsOf ops → a.tmps[t]? = a0.tmps[t]?
  new : ∀ (k : Nat) (o : Oper) (d : Nat), ops[k]? = some o → o.dst = some d → L k → ∃ v, a.tmps[d]? = some v ∧ G d v w
  bel : Below W0.heap.size W0 w
theorem mem_dsts {ops : Array Oper} {d : Nat} (h : d ∈ dstsOf ops) : ∃ (k : Nat) (o : Oper), ops[k]? = some o ∧ o.dst = some d := by
  obtain ⟨o, ho, hd⟩ := List.mem_filterMap.1 h
  obtain ⟨k, hk⟩ := List.mem_iff_getElem?.1 ho
  have hk' : ops[k]? = some o := by rw [← Array.getElem?_toList]; exact hk
  exact ⟨k, o, hk', hd⟩
theorem dsts_mem {ops : Array Oper} {k d : Nat} {o : Oper} (h : ops[k]? = some o) (hd : o.dst = some d) : d ∈ dstsOf ops := by
  rw [← Array.getElem?_toList] at h
  exact List.mem_filterMap.2 ⟨o, List.mem_of_getElem? h, hd⟩
theorem RgI.put {ops : Array Oper} {G : Nat → Value → World → Prop} {a0 : Act} {W0 : World} {L : Nat → Prop} {a : Act} {w w' : World} (R : Rg a0.tmps.size ops) (hG : ∀ d v w w', G d v w → Below w.heap.size w w' → G d v w') (h : RgI ops G a0 W0 L a w) {k d : Nat} {o : Oper} {v : Value} (ho : ops[k]? = some o) (hd : o.dst = some d) (hv : G d v w') (hB : Below w.heap.size w w') :
    RgI ops G a0 W0 (fun j => j = k ∨ L j) (a.put o.dst v) w' := by
  obtain ⟨d', hd', hlt⟩ := R.dst k o ho
  rw [hd] at hd'
  cases hd'
  rw [hd]
  have hput : (a.put (some d) v).tmps = a.tmps.setIfInBounds d v := rfl
  refine ⟨h.def', by rw [hput, Array.size_setIfInBounds]; exact h.size, fun t ht => ?_, fun j p e hp he hj => ?_, h.bel.trans (hB.mono h.bel.size)⟩
  · have hne : d ≠ t := fun e => ht (e ▸ dsts_mem ho hd)
    rw [hput, Array.getElem?_setIfInBounds_ne hne]
    exact h.old t ht
  · by_cases hjk : j = k
    · subst hjk
      rw [ho] at hp
      cases hp
      rw [hd] at he
      cases he
      refine ⟨v, ?_, hv⟩
      rw [hput, Array.getElem?_setIfInBounds_self_of_lt (by rw [h.size]; exact hlt)]
    · obtain ⟨u, hu, hg⟩ := h.new j p e hp he (hj.resolve_left hjk)
      have hne : d ≠ e := fun x => hjk (R.one k o j p d ho hp hd (by rw [x]; exact he))
      exact ⟨u, by rw [hput, Array.getElem?_setIfInBounds_ne hne]; exact hu, hG _ _ _ _ hg hB⟩
/-- when all have come up, the frame is the first one with the slots written -/
theorem putR_size (vs : Nat → Value) : ∀ (l : List Nat) (a : Act), (putR vs l a).tmps.size = a.tmps.size := by
  intro l
  induction l with
  | nil => intro a; rfl
  | cons d l ih => intro a; rw [putR, ih]; exact Array.size_setIfInBounds
theorem putR_defers (vs : Nat → Value) : ∀ (l : List Nat) (a : Act), (putR vs l a).defers = a.defers := by
  intro l
  induction l with
  | nil => intro a; rfl
  | cons d l ih => intro a; rw [putR, ih]; rfl
theorem putR_get (vs : Nat → Value) : ∀ (l : List Nat) (a : Act) (t : Nat), (∀ d ∈ l, d < a.tmps.size) → (putR vs l a).tmps[t]? = if t ∈ l then some (vs t) else a.tmps[t]? := by
  intro l
  induction l with
  | nil => intro a t _; simp [putR]
  | cons d l ih =>
    intro a t hl
    have hs : (a.put (some d) (vs d)).tmps.size = a.tmps.size := Array.size_setIfInBounds
    rw [putR, ih _ _ (fun x hx => by rw [hs]; exact hl x (List.mem_cons_of_mem _ hx))]
    by_cases ht : t ∈ l
    · rw [if_pos ht, if_pos (List.mem_cons_of_mem _ ht)]
    · rw [if_neg ht]
      show (a.tmps.setIfInBounds d (vs d))[t]? = _
      by_cases hd : d = t
      · subst hd
        rw [if_pos (List.mem_cons_self ..), Array.getElem?_setIfInBounds_self_of_lt (hl _ (List.mem_cons_self ..))]
      · rw [Array.getElem?_setIfInBounds_ne hd, if_neg (fun e => by rcases List.mem_cons.1 e with e | e; exact hd e.symm; exact ht e)]
theorem RgI.end' {ops : Array Oper} {G : Nat → Value → World → Prop} {a0 : Act} {W0 : World} {L : Nat → Prop} {a : Act} {w : World} (R : Rg a0.tmps.size ops) (h : RgI ops G a0 W0 L a w) (hall : ∀ k, k < ops.size → L k) :
    a = putR (fun d => a.tmps.getD d undef) (dstsOf ops) a0 ∧ ∀ d ∈ dstsOf ops, G d (a.tmps.getD d undef) w := by
  have hlt : ∀ d ∈ dstsOf ops, d < a0.tmps.size := fun d hd => by
    obtain ⟨k, o, ho, hod⟩ := mem_dsts hd
    obtain ⟨d', hd', hl⟩ := R.dst k o ho
    rw [hod] at hd'; cases hd'; exact hl
  have hnew : ∀ d ∈ dstsOf ops, ∃ v, a.tmps[d]? = some v ∧ G d v w := fun d hd => by
    obtain ⟨k, o, ho, hod⟩ := mem_dsts hd
    exact h.new k o d ho hod (hall k (Array.getElem?_eq_some_iff.1 ho).1)
  refine ⟨?_, fun d hd => ?_⟩
  · have e1 : a.tmps = (putR (fun d => a.tmps.getD d undef) (dstsOf ops) a0).tmps := by
      apply Array.ext_getElem?
      intro t
      rw [putR_get _ _ _ _ hlt]
      by_cases ht : t ∈ dstsOf ops
      · rw [if_pos ht]
        obtain ⟨v, hv, _⟩ := hnew t ht
        rw [hv, Array.getD_eq_getD_getElem?, hv]
        rfl
      · rw [if_neg ht]
        exact h.old t ht
    have e2 : a.defers = (putR (fun d => a.tmps.getD d undef) (dstsOf ops) a0).defers := by rw [putR_defers]; exact h.def'
    generalize putR (fun d => a.tmps.getD d undef) (dstsOf ops) a0 = b at e1 e2
    cases a; cases b
    simp only at e1 e2
    rw [e1, e2]
  · obtain ⟨v, hv, hg⟩ := hnew d hd
    rw [Array.getD_eq_getD_getElem?, hv]
    exact hg
/-- one operation, from wherever it may come up: its value has its property, and memory has only grown -/
def RgStep (P : Program) (ops : Array Oper) (G : Nat → Value → World → Prop) (a0 : Act) (W0 : World) (Q : Exit → Act → World → Prop) (o : Oper) : Prop :=
  ∀ (a : Act) (w : World), (∀ t, t ∉ dstsOf ops → a.tmps[t]? = a0.tmps[t]?) → (∀ e ∈ o.after, ∀ (p : Oper) (d : Nat), ops[e.on]? = some p → p.dst = some d → Region.binds .any e = true → ∃ v, a.tmps[d]? = some v ∧ G d v w) → Below W0.heap.size W0 w →
    o.wp P a w (fun a' w' => ∃ v, a' = a.put o.dst v ∧ (∀ d, o.dst = some d → G d v w') ∧ Below w.heap.size w w') Q
theorem wpAny_props {P : Program} {ops : Array Oper} {Q : Exit → Act → World → Prop} {G : Nat → Value → World → Prop} {a0 : Act} {W0 : World} (R : Rg a0.tmps.size ops) (hG : ∀ d v w w', G d v w → Below w.heap.size w w' → G d v w') (hS : ∀ (k : Nat) (o : Oper), ops[k]? = some o → RgStep P ops G a0 W0 Q o)
    (hQ : ∀ vs w, Below W0.heap.size W0 w → (∀ d ∈ dstsOf ops, G d (vs d) w) → Q .normal (putR vs (dstsOf ops) a0) w) :
    ∀ (fuel : Nat) (listed : Array Bool) (a : Act) (w : World), listed.size = ops.size → (listed.toList.filter (! ·)).length ≤ fuel → RgI ops G a0 W0 (fun k => listed.getD k false = true) a w → wpAny P .any ops Q fuel listed a w := by
  have hend : ∀ (listed : Array Bool) (a : Act) (w : World), listed.size = ops.size → Region.ready .any ops listed = [] → RgI ops G a0 W0 (fun k => listed.getD k false = true) a w → Q .normal a w := by
    intro listed a w hs hr hI
    have hall : ∀ k, k < ops.size → listed.getD k false = true := by
      intro k
      induction k using Nat.strongRecOn with
      | _ k ih =>
        intro hk
        cases hc : listed.getD k false with
        | true => rfl
        | false =>
          have ho : ops[k]? = some ops[k] := Array.getElem?_eq_getElem hk
          have : k ∈ Region.ready .any ops listed := mem_ready.2 ⟨by rw [Array.getD_eq_getD_getElem?, Array.getElem?_eq_getElem (by omega)] at hc ⊢; exact hc, _, ho, fun e he _ => ih e.on (R.lex k _ ho e he) (by have := R.lex k _ ho e he; omega)⟩
          rw [hr] at this
          cases this
    obtain ⟨e, hg⟩ := hI.end' R hall
    rw [e]
    exact hQ _ w hI.bel hg
  intro fuel
  induction fuel with
  | zero =>
    intro listed a w hs hf hI
    have hnil : Region.ready .any ops listed = [] := by
      cases hr : Region.ready .any ops listed with
      | nil => rfl
      | cons i l =>
        have hi : i ∈ Region.ready .any ops listed := by rw [hr]; exact List.mem_cons_self ..
        obtain ⟨h0, o, ho, _⟩ := mem_ready.1 hi
        have hlt : i < listed.size := by rw [hs]; exact (Array.getElem?_eq_some_iff.1 ho).1
        have hmem : false ∈ listed.toList := by
          rw [Array.getD_eq_getD_getElem?, Array.getElem?_eq_getElem hlt] at h0
          have h0' : listed[i] = false := h0
          rw [← h0']
          exact Array.getElem_mem_toList ..
        have hmem2 : false ∈ listed.toList.filter (! ·) := List.mem_filter.2 ⟨hmem, rfl⟩
        have := List.length_pos_of_mem hmem2
        omega
    exact ⟨hnil, hend listed a w hs hnil hI⟩
  | succ fuel ih =>
    intro listed a w hs hf hI
    refine ⟨fun hr => hend listed a w hs hr hI, fun i hi => ?_⟩
    obtain ⟨h0, o, ho, hall⟩ := mem_ready.1 hi
    have hlt : i < listed.size := by rw [hs]; exact (Array.getElem?_eq_some_iff.1 ho).1
    obtain ⟨d, hd, _⟩ := R.dst i o ho
    have hw : Region.wanted o (yielded ops a.tmps) = true := by simp [Region.wanted, R.guard i o ho]
    unfold wpOp
    rw [ho]
    simp only [hw, if_true]
    refine .inl (Oper.wp_mono (fun a' w' ⟨v, ha, hv, hB⟩ => ?_) (hS i o ho a w hI.old (fun e he p d' hp hd' hb => hI.new e.on p d' hp hd' (hall e he hb)) hI.bel))
    subst ha
    have hI' := hI.put R hG ho hd (hv d hd) hB
    refine ih _ _ _ (by rw [Array.size_setIfInBounds]; exact hs) ?_ ⟨hI'.def', hI'.size, hI'.old, fun k p d' hp hd' hk => hI'.new k p d' hp hd' ?_, hI'.bel⟩
    · have hc : (listed.setIfInBounds i true).toList = listed.toList.set i true := Array.toList_setIfInBounds ..
      rw [hc]
      have h0' : listed.toList[i]'(by simpa using hlt) = false := by
        rw [Array.getD_eq_getD_getElem?, Array.getElem?_eq_getElem hlt] at h0
        simpa using h0
      have key : ∀ (l : List Bool) (i : Nat) (hi : i < l.length), l[i] = false → ((l.set i true).filter (! ·)).length + 1 = (l.filter (! ·)).length := by
        intro l
        induction l with
        | nil => intro i hi; simp at hi
        | cons x l ihl =>
          intro i hi hx
          cases i with
          | zero => simp at hx; subst hx; simp
          | succ i =>
            have := ihl i (by simpa using hi) (by simpa using hx)
            cases x <;> simp at this ⊢ <;> omega
      have := key listed.toList i (by simpa using hlt) h0'
      omega
    · by_cases hki : k = i
      · exact .inl hki
      · rw [getD_set_ne false (Ne.symm hki)] at hk
        exact .inr hk
/-- the statement itself -/
theorem wp_region_props {P : Program} {ops : Array Oper} {Q : Exit → Act → World → Prop} {a0 : Act} {w : World} {id : Nat} (G : Nat → Value → World → Prop) (hm : P.follows .mixedOrders = true) (hR : rgB a0.tmps.size ops = true) (hG : ∀ d v w w', G d v w → Below w.heap.size w w' → G d v w') (hS : ∀ (k : Nat) (o : Oper), ops[k]? = some o → RgStep P ops G a0 w.drew Q o)
    (hQ : ∀ vs w', Below w.drew.heap.size w.drew w' → (∀ d ∈ dstsOf ops, G d (vs d) w') → Q .normal (putR vs (dstsOf ops) a0) w') : (Code.region id ops true).wp P Q a0 w := by
  refine wp_region_any hm (wpAny_props (W0 := w.drew) (rg_of hR) hG hS hQ ops.size _ a0 w.drew (Array.size_replicate ..) ?_ ⟨rfl, rfl, fun _ _ => rfl, fun k o d ho hd hk => ?_, Below.refl _ _⟩)
  · refine Nat.le_trans (List.length_filter_le _ _) ?_
    simp
  · have hlt := (Array.getElem?_eq_some_iff.1 ho).1
    simp [hlt] at hk
end Go.Proofs.Ytiapkblebbcfbaa.Gl
/- A statement whose order is open and which ends in a store, by properties of its operations' values: of no program. -/
namespace Go.Proofs.Ytiapkblebbcfbaa.Gl
open Go Go.RowKit
set_option linter.unusedVariables false

/-- where each operation but the last one writes -/
def dstsL (ops : Array Oper) : List Nat := ops.toList.dropLast.filterMap (·.dst)
/-- what is asked of the operations, told by their text: each but the last one writes a slot of its own, none is guarded, each waits for earlier ones alone, something waits for each but the last -/
def rlB (n : Nat) (ops : Array Oper) : Bool :=
  (List.range ops.toList.dropLast.length).all (fun k => match ops.toList.dropLast[k]? with
    | some o => (match o.dst with | some d => decide (d < n) && (List.range ops.toList.dropLast.length).all (fun j => decide (j = k) || (match ops.toList.dropLast[j]? with | some p => decide (p.dst ≠ some d) | none => true)) | none => false) && o.guard.isNone && o.after.all (fun e => decide (e.on < k)) && (List.range ops.size).any (fun j => decide (k < j) && (match ops[j]? with | some p => p.after.any (fun e => decide (e.on = k) && Region.binds .any e) | none => false))
    | none => false) && (match ops[ops.size - 1]? with | some o => o.guard.isNone && o.after.all (fun e => decide (e.on < ops.size - 1)) | none => false)
structure Rl (n : Nat) (ops : Array Oper) : Prop where
  dst : ∀ (k : Nat) (o : Oper), k < ops.size - 1 → ops[k]? = some o → ∃ d, o.dst = some d ∧ d < n
  one : ∀ (k : Nat) (o : Oper) (j : Nat) (p : Oper) (d : Nat), k < ops.size - 1 → j < ops.size - 1 → ops[k]? = some o → ops[j]? = some p → o.dst = some d → p.dst = some d → j = k
  guard : ∀ (k : Nat) (o : Oper), ops[k]? = some o → o.guard = none
  lex : ∀ (k : Nat) (o : Oper), ops[k]? = some o → ∀ e ∈ o.after, e.on < k
  next : ∀ (k : Nat), k < ops.size - 1 → ∃ (j : Nat) (p : Oper), k < j ∧ ops[j]? = some p ∧ ∃ e ∈ p.after, e.on = k ∧ Region.binds .any e = true
  pos : 0 < ops.size
theorem dropLast_get (ops : Array Oper) (k : Nat) (h : k < ops.size - 1) : ops.toList.dropLast[k]? = ops[k]? := by
  rw [List.getElem?_dropLast, if_pos (by simpa using h), Array.getElem?_toList]
theorem dropLast_len (ops : Array Oper) : ops.toList.dropLast.length = ops.size - 1 := by simp
theorem rl_of {n : Nat} {ops : Array Oper} (h : rlB n ops = true) : Rl n ops := by
  unfold rlB at h
  rw [Bool.and_eq_true, List.all_eq_true] at h
  obtain ⟨h, hl⟩ := h
  have hpos : 0 < ops.size := by
    rcases Nat.eq_zero_or_pos ops.size with hz | hz
    · have : ops[ops.size - 1]? = none := by rw [Array.getElem?_eq_none]; omega
      rw [this] at hl; cases hl
    · exact hz
  have key : ∀ (k : Nat) (o : Oper), k < ops.size - 1 → ops[k]? = some o → ((match o.dst with | some d => decide (d < n) && (List.range ops.toList.dropLast.length).all (fun j => decide (j = k) || (match ops.toList.dropLast[j]? with | some p => decide (p.dst ≠ some d) | none => true)) | none => false) && o.guard.isNone && o.after.all (fun e => decide (e.on < k)) && (List.range ops.size).any (fun j => decide (k < j) && (match ops[j]? with | some p => p.after.any (fun e => decide (e.on = k) && Region.binds .any e) | none => false))) = true := fun k o hk ho => by
    have := h k (List.mem_range.2 (by rw [dropLast_len]; exact hk))
    rw [dropLast_get ops k hk, ho] at this
    exact this
  have lastk : ∀ o, ops[ops.size - 1]? = some o → (o.guard.isNone && o.after.all (fun e => decide (e.on < ops.size - 1))) = true := fun o ho => by
    rw [ho] at hl
    exact hl
  have split : ∀ (k : Nat) (o : Oper), ops[k]? = some o → k < ops.size - 1 ∨ k = ops.size - 1 := fun k o ho => by
    have := (Array.getElem?_eq_some_iff.1 ho).1
    omega
  refine ⟨fun k o hk ho => ?_, fun k o j p d hk hj ho hp hd hd' => ?_, fun k o ho => ?_, fun k o ho e he => ?_, fun k hk => ?_, hpos⟩
  · have := key k o hk ho
    cases hd : o.dst with
    | none => simp [hd] at this
    | some d =>
      simp only [hd, Bool.and_eq_true, decide_eq_true_eq] at this
      exact ⟨d, rfl, this.1.1.1.1⟩
  · have := key k o hk ho
    simp only [hd, Bool.and_eq_true, List.all_eq_true] at this
    have h2 := this.1.1.1.2 j (List.mem_range.2 (by rw [dropLast_len]; exact hj))
    rw [dropLast_get ops j hj, hp] at h2
    simp only [Bool.or_eq_true, decide_eq_true_eq] at h2
    exact h2.resolve_right fun e => e hd'
  · rcases split k o ho with hk | rfl
    · have := key k o hk ho
      simp only [Bool.and_eq_true] at this
      simpa using this.1.1.2
    · have := lastk o ho
      simp only [Bool.and_eq_true] at this
      simpa using this.1
  · rcases split k o ho with hk | rfl
    · have := key k o hk ho
      simp only [Bool.and_eq_true, Array.all_eq_true_iff_forall_mem, decide_eq_true_eq] at this
      exact this.1.2 e he
    · have := lastk o ho
      simp only [Bool.and_eq_true, Array.all_eq_true_iff_forall_mem, decide_eq_true_eq] at this
      exact this.2 e he
  · have ho : ops[k]? = some ops[k] := Array.getElem?_eq_getElem (by omega)
    have := key k _ hk ho
    simp only [Bool.and_eq_true, List.any_eq_true] at this
    obtain ⟨j, hj, hkj, h2⟩ := this.2
    have hj' := List.mem_range.1 hj
    rw [Array.getElem?_eq_getElem hj'] at h2
    replace h2 : (ops[j].after.any fun e => decide (e.on = k) && Region.binds .any e) = true := h2
    rw [← Array.any_toList, List.any_eq_true] at h2
    obtain ⟨e, he, h3⟩ := h2
    rw [Bool.and_eq_true, decide_eq_true_eq] at h3
    exact ⟨j, _, by simpa using hkj, Array.getElem?_eq_getElem hj', e, by simpa using he, h3.1, h3.2⟩
/-- what is known on the way -/
structure RlI (ops : Array Oper) (G : Nat → Value → World → Prop) (Rel : World → World → Prop) (a0 : Act) (W0 : World) (L : Nat → Prop) (a : Act) (w : World) : Prop where
  def' : a.defers = a0.defers
  size : a.tmps.size = a0.tmps.size
  old : ∀ t, t ∉ dstsL ops → a.tmps[t]? = a0.tmps[t]?
  new : ∀ (k : Nat) (o : Oper) (d : Nat), k < ops.size - 1 → ops[k]? = some o → o.dst = some d → L k → ∃ v, a.tmps[d]? = some v ∧ G d v w
  rel : Rel W0 w
  down : ∀ (k : Nat) (o : Oper), ops[k]? = some o → L k → ∀ e ∈ o.after, Region.binds .any e = true → L e.on
theorem mem_dstsL {ops : Array Oper} {d : Nat} (h : d ∈ dstsL ops) : ∃ (k : Nat) (o : Oper), k < ops.size - 1 ∧ ops[k]? = some o ∧ o.dst = some d := by
  obtain ⟨o, ho, hd⟩ := List.mem_filterMap.1 h
  obtain ⟨k, hk⟩ := List.mem_iff_getElem?.1 ho
  have hlt : k < ops.size - 1 := by
    have := (List.getElem?_eq_some_iff.1 hk).1
    rw [dropLast_len] at this; exact this
  exact ⟨k, o, hlt, by rw [← dropLast_get ops k hlt]; exact hk, hd⟩
theorem dstsL_mem {ops : Array Oper} {k d : Nat} {o : Oper} (hk : k < ops.size - 1) (h : ops[k]? = some o) (hd : o.dst = some d) : d ∈ dstsL ops := by
  rw [← dropLast_get ops k hk] at h
  exact List.mem_filterMap.2 ⟨o, List.mem_of_getElem? h, hd⟩
/-- one operation, from wherever it may come up: its value has its property, and memory has turned as it may -/
def RlStep (P : Program) (ops : Array Oper) (G : Nat → Value → World → Prop) (Rel : World → World → Prop) (a0 : Act) (W0 : World) (Q : Exit → Act → World → Prop) (o : Oper) : Prop :=
  ∀ (a : Act) (w : World), (∀ t, t ∉ dstsL ops → a.tmps[t]? = a0.tmps[t]?) → (∀ e ∈ o.after, ∀ (p : Oper) (d : Nat), ops[e.on]? = some p → p.dst = some d → Region.binds .any e = true → ∃ v, a.tmps[d]? = some v ∧ G d v w) → Rel W0 w →
    o.wp P a w (fun a' w' => ∃ v, a' = a.put o.dst v ∧ (∀ d, o.dst = some d → G d v w') ∧ Rel w w') Q
theorem RlI.put {ops : Array Oper} {G : Nat → Value → World → Prop} {Rel : World → World → Prop} (ht : ∀ x y z, Rel x y → Rel y z → Rel x z) {a0 : Act} {W0 : World} {L : Nat → Prop} {a : Act} {w w' : World} (R : Rl a0.tmps.size ops) (hG : ∀ d v w w', G d v w → Rel w w' → G d v w') (h : RlI ops G Rel a0 W0 L a w) {k d : Nat} {o : Oper} {v : Value} (hk : k < ops.size - 1) (ho : ops[k]? = some o) (hd : o.dst = some d) (hv : G d v w') (hB : Rel w w') (hdn : ∀ e ∈ o.after, Region.binds .any e = true → L e.on) :
    RlI ops G Rel a0 W0 (fun j => j = k ∨ L j) (a.put o.dst v) w' := by
  obtain ⟨d', hd', hlt⟩ := R.dst k o hk ho
  rw [hd] at hd'
  cases hd'
  rw [hd]
  have hput : (a.put (some d) v).tmps = a.tmps.setIfInBounds d v := rfl
  refine ⟨h.def', by rw [hput, Array.size_setIfInBounds]; exact h.size, fun t ht => ?_, fun j p e hj hp he hL => ?_, ht _ _ _ h.rel hB, fun j p hp hL e he hb => ?_⟩
  · have hne : d ≠ t := fun e => ht (e ▸ dstsL_mem hk ho hd)
    rw [hput, Array.getElem?_setIfInBounds_ne hne]
    exact h.old t ht
  · by_cases hjk : j = k
    · subst hjk
      rw [ho] at hp
      cases hp
      rw [hd] at he
      cases he
      refine ⟨v, ?_, hv⟩
      rw [hput, Array.getElem?_setIfInBounds_self_of_lt (by rw [h.size]; exact hlt)]
    · obtain ⟨u, hu, hg⟩ := h.new j p e hj hp he (hL.resolve_left hjk)
      have hne : d ≠ e := fun x => hjk (R.one k o j p d hk hj ho hp hd (by rw [x]; exact he))
      exact ⟨u, by rw [hput, Array.getElem?_setIfInBounds_ne hne]; exact hu, hG _ _ _ _ hg hB⟩
  · rcases hL with rfl | hL
    · rw [ho] at hp; cases hp
      exact .inr (hdn e he hb)
    · exact .inr (h.down j p hp hL e he hb)
theorem RlI.end' {ops : Array Oper} {G : Nat → Value → World → Prop} {Rel : World → World → Prop} {a0 : Act} {W0 : World} {L : Nat → Prop} {a : Act} {w : World} (R : Rl a0.tmps.size ops) (h : RlI ops G Rel a0 W0 L a w) (hall : ∀ k, k < ops.size - 1 → L k) :
    a = putR (fun d => a.tmps.getD d undef) (dstsL ops) a0 ∧ ∀ d ∈ dstsL ops, G d (a.tmps.getD d undef) w := by
  have hlt : ∀ d ∈ dstsL ops, d < a0.tmps.size := fun d hd => by
    obtain ⟨k, o, hk, ho, hod⟩ := mem_dstsL hd
    obtain ⟨d', hd', hl⟩ := R.dst k o hk ho
    rw [hod] at hd'; cases hd'; exact hl
  have hnew : ∀ d ∈ dstsL ops, ∃ v, a.tmps[d]? = some v ∧ G d v w := fun d hd => by
    obtain ⟨k, o, hk, ho, hod⟩ := mem_dstsL hd
    exact h.new k o d hk ho hod (hall k hk)
  refine ⟨?_, fun d hd => ?_⟩
  · have e1 : a.tmps = (putR (fun d => a.tmps.getD d undef) (dstsL ops) a0).tmps := by
      apply Array.ext_getElem?
      intro t
      rw [putR_get _ _ _ _ hlt]
      by_cases ht : t ∈ dstsL ops
      · rw [if_pos ht]
        obtain ⟨v, hv, _⟩ := hnew t ht
        rw [hv, Array.getD_eq_getD_getElem?, hv]
        rfl
      · rw [if_neg ht]
        exact h.old t ht
    have e2 : a.defers = (putR (fun d => a.tmps.getD d undef) (dstsL ops) a0).defers := by rw [putR_defers]; exact h.def'
    generalize putR (fun d => a.tmps.getD d undef) (dstsL ops) a0 = b at e1 e2
    cases a; cases b
    simp only at e1 e2
    rw [e1, e2]
  · obtain ⟨v, hv, hg⟩ := hnew d hd
    rw [Array.getD_eq_getD_getElem?, hv]
    exact hg
theorem filt_lt : ∀ (l : List Bool) (i : Nat) (hi : i < l.length), l[i] = false → ((l.set i true).filter (! ·)).length + 1 = (l.filter (! ·)).length := by
  intro l
  induction l with
  | nil => intro i hi; simp at hi
  | cons x l ihl =>
    intro i hi hx
    cases i with
    | zero => simp at hx; subst hx; simp
    | succ i =>
      have := ihl i (by simpa using hi) (by simpa using hx)
      cases x <;> simp at this ⊢ <;> omega
theorem wpAny_last {P : Program} {ops : Array Oper} {Q : Exit → Act → World → Prop} {G : Nat → Value → World → Prop} {Rel : World → World → Prop} (ht : ∀ x y z, Rel x y → Rel y z → Rel x z) {a0 : Act} {W0 : World} (R : Rl a0.tmps.size ops) (hG : ∀ d v w w', G d v w → Rel w w' → G d v w') (hS : ∀ (k : Nat) (o : Oper), k < ops.size - 1 → ops[k]? = some o → RlStep P ops G Rel a0 W0 Q o)
    (hQ : ∀ vs w o, ops[ops.size - 1]? = some o → Rel W0 w → (∀ d ∈ dstsL ops, G d (vs d) w) → o.wp P (putR vs (dstsL ops) a0) w (fun a' w' => Q .normal a' w') Q) :
    ∀ (fuel : Nat) (listed : Array Bool) (a : Act) (w : World), listed.size = ops.size → listed.getD (ops.size - 1) true = false → (listed.toList.filter (! ·)).length ≤ fuel → RlI ops G Rel a0 W0 (fun k => listed.getD k false = true) a w → wpAny P .any ops Q fuel listed a w := by
  have hpos := R.pos
  have nolist : ∀ (listed : Array Bool) (k : Nat), listed.size = ops.size → k < ops.size → (listed.getD k true = false ↔ ¬ listed.getD k false = true) := fun listed k hs hk => by
    rw [Array.getD_eq_getD_getElem?, Array.getD_eq_getD_getElem?, Array.getElem?_eq_getElem (by omega)]
    simp
  -- something is ready while the last one is not listed
  have hrdy : ∀ (listed : Array Bool) (a : Act) (w : World), listed.size = ops.size → listed.getD (ops.size - 1) true = false → Region.ready .any ops listed ≠ [] := by
    intro listed a w hs hl hr
    have hall : ∀ k, k < ops.size → listed.getD k false = true := by
      intro k
      induction k using Nat.strongRecOn with
      | _ k ih =>
        intro hk
        cases hc : listed.getD k false with
        | true => rfl
        | false =>
          have ho : ops[k]? = some ops[k] := Array.getElem?_eq_getElem hk
          have : k ∈ Region.ready .any ops listed := mem_ready.2 ⟨(nolist listed k hs hk).2 (by rw [hc]; simp), _, ho, fun e he _ => ih e.on (R.lex k _ ho e he) (by have := R.lex k _ ho e he; omega)⟩
          rw [hr] at this
          cases this
    exact (nolist listed _ hs (by omega)).1 hl (hall _ (by omega))
  intro fuel
  induction fuel with
  | zero =>
    intro listed a w hs hl hf hI
    exfalso
    have hlt : ops.size - 1 < listed.size := by omega
    have hmem : false ∈ listed.toList := by
      rw [Array.getD_eq_getD_getElem?, Array.getElem?_eq_getElem hlt] at hl
      have h0' : listed[ops.size - 1] = false := hl
      rw [← h0']
      exact Array.getElem_mem_toList ..
    have hmem2 : false ∈ listed.toList.filter (! ·) := List.mem_filter.2 ⟨hmem, rfl⟩
    have := List.length_pos_of_mem hmem2
    omega
  | succ fuel ih =>
    intro listed a w hs hl hf hI
    refine ⟨fun hr => absurd hr (hrdy listed a w hs hl), fun i hi => ?_⟩
    obtain ⟨h0, o, ho, hall⟩ := mem_ready.1 hi
    have hio : i < ops.size := (Array.getElem?_eq_some_iff.1 ho).1
    have hlt : i < listed.size := by omega
    have hw : Region.wanted o (yielded ops a.tmps) = true := by simp [Region.wanted, R.guard i o ho]
    unfold wpOp
    rw [ho]
    simp only [hw, if_true]
    have hc : (listed.setIfInBounds i true).toList = listed.toList.set i true := Array.toList_setIfInBounds ..
    have h0' : listed.toList[i]'(by simpa using hlt) = false := by
      rw [Array.getD_eq_getD_getElem?, Array.getElem?_eq_getElem hlt] at h0
      simpa using h0
    have hflt := filt_lt listed.toList i (by simpa using hlt) h0'
    by_cases hil : i = ops.size - 1
    · subst hil
      -- all others have come up
      have hothers : ∀ m k, k < ops.size - 1 → ops.size - 1 - k ≤ m → listed.getD k false = true := by
        intro m
        induction m with
        | zero => intro k hk hm; omega
        | succ m ihm =>
          intro k hk hm
          obtain ⟨j, p, hkj, hp, e, he, hek, hb⟩ := R.next k hk
          have hjs := (Array.getElem?_eq_some_iff.1 hp).1
          by_cases hjl : j = ops.size - 1
          · subst hjl
            rw [ho] at hp; cases hp
            rw [← hek]
            exact hall e he hb
          · have hj := ihm j (by omega) (by omega)
            rw [← hek]
            exact hI.down j p hp hj e he hb
      obtain ⟨e, hg⟩ := hI.end' R (fun k hk => hothers _ k hk (Nat.le_refl _))
      have hgo := hQ (fun d => a.tmps.getD d undef) w o ho hI.rel hg
      rw [← e] at hgo
      refine .inl (Oper.wp_mono (fun a' w' hq => ?_) hgo)
      have hnil : Region.ready .any ops (listed.setIfInBounds (ops.size - 1) true) = [] := by
        cases hr : Region.ready .any ops (listed.setIfInBounds (ops.size - 1) true) with
        | nil => rfl
        | cons i l =>
          have hi : i ∈ Region.ready .any ops (listed.setIfInBounds (ops.size - 1) true) := by rw [hr]; exact List.mem_cons_self ..
          obtain ⟨k0, o', ho', _⟩ := mem_ready.1 hi
          have hi' := (Array.getElem?_eq_some_iff.1 ho').1
          by_cases hin : i = ops.size - 1
          · subst hin
            rw [Array.getD_eq_getD_getElem?, Array.getElem?_setIfInBounds_self_of_lt hlt] at k0
            cases k0
          · have := hothers _ i (by omega) (Nat.le_refl _)
            rw [Array.getD_eq_getD_getElem?, Array.getElem?_setIfInBounds_ne (Ne.symm hin), ← Array.getD_eq_getD_getElem?] at k0
            exact absurd this ((nolist listed i hs hi').1 k0)
      cases fuel with
      | zero => exact ⟨hnil, hq⟩
      | succ f => exact ⟨fun _ => hq, fun i hi => by rw [hnil] at hi; cases hi⟩
    · have hik : i < ops.size - 1 := by omega
      obtain ⟨d, hd, _⟩ := R.dst i o hik ho
      refine .inl (Oper.wp_mono (fun a' w' ⟨v, ha, hv, hB⟩ => ?_) (hS i o hik ho a w hI.old (fun e he p d' hp hd' hb => by
        have hel := R.lex i o ho e he
        exact hI.new e.on p d' (by omega) hp hd' (hall e he hb)) hI.rel))
      subst ha
      have hI' := hI.put ht R hG hik ho hd (hv d hd) hB hall
      refine ih _ _ _ (by rw [Array.size_setIfInBounds]; exact hs) ?_ (by rw [hc]; omega) ⟨hI'.def', hI'.size, hI'.old, fun k p d' hk hp hd' hkk => hI'.new k p d' hk hp hd' ?_, hI'.rel, fun k p hp hkk e he hb => ?_⟩
      · rw [Array.getD_eq_getD_getElem?, Array.getElem?_setIfInBounds_ne hil, ← Array.getD_eq_getD_getElem?]
        exact hl
      · by_cases hki : k = i
        · exact .inl hki
        · rw [getD_set_ne false (Ne.symm hki)] at hkk
          exact .inr hkk
      · have hkk' : k = i ∨ listed.getD k false = true := by
          by_cases hki : k = i
          · exact .inl hki
          · rw [getD_set_ne false (Ne.symm hki)] at hkk
            exact .inr hkk
        rcases hI'.down k p hp hkk' e he hb with h | h
        · rw [h, Array.getD_eq_getD_getElem?, Array.getElem?_setIfInBounds_self_of_lt hlt]; rfl
        · by_cases hei : e.on = i
          · rw [hei, Array.getD_eq_getD_getElem?, Array.getElem?_setIfInBounds_self_of_lt hlt]; rfl
          · rw [getD_set_ne false (Ne.symm hei)]; exact h
/-- the statement itself -/
theorem wp_region_last {P : Program} {ops : Array Oper} {Q : Exit → Act → World → Prop} {a0 : Act} {w : World} {id : Nat} (G : Nat → Value → World → Prop) (Rel : World → World → Prop) (hr : ∀ x, Rel x x) (ht : ∀ x y z, Rel x y → Rel y z → Rel x z) (hm : P.follows .mixedOrders = true) (hR : rlB a0.tmps.size ops = true) (hG : ∀ d v w w', G d v w → Rel w w' → G d v w') (hS : ∀ (k : Nat) (o : Oper), k < ops.size - 1 → ops[k]? = some o → RlStep P ops G Rel a0 w.drew Q o)
    (hQ : ∀ vs w' o, ops[ops.size - 1]? = some o → Rel w.drew w' → (∀ d ∈ dstsL ops, G d (vs d) w') → o.wp P (putR vs (dstsL ops) a0) w' (fun a' w'' => Q .normal a' w'') Q) : (Code.region id ops true).wp P Q a0 w := by
  have R := rl_of hR
  have hpos := R.pos
  refine wp_region_any hm (wpAny_last ht (W0 := w.drew) R hG hS hQ ops.size _ a0 w.drew (Array.size_replicate ..) ?_ ?_ ⟨rfl, rfl, fun _ _ => rfl, fun k o d hk ho hd hL => ?_, hr _, fun k o ho hL => ?_⟩)
  · rw [Array.getD_eq_getD_getElem?, Array.getElem?_replicate, if_pos (by omega)]; rfl
  · refine Nat.le_trans (List.length_filter_le _ _) ?_
    simp
  · have hlt := (Array.getElem?_eq_some_iff.1 ho).1
    simp [hlt] at hL
  · have hlt := (Array.getElem?_eq_some_iff.1 ho).1
    simp [hlt] at hL
theorem eval_tmp9 {a : Act} {t : Nat} {v : Value} (h : a.tmps[t]? = some v) : a.eval (.tmp t) = v := by
  show a.tmps.getD t undef = v
  rw [Array.getD_eq_getD_getElem?, h]
  rfl
/-- properties by a table of values, and one slot more -/
def GT (tab : List (Nat × Value)) (S : Value → World → Prop) (d : Nat) (v : Value) (w : World) : Prop := match tab.lookup d with | some x => v = x | none => S v w
theorem gt_keep {tab : List (Nat × Value)} {S : Value → World → Prop} {Rel : World → World → Prop} (h : ∀ v y z, S v y → Rel y z → S v z) : ∀ d v y z, GT tab S d v y → Rel y z → GT tab S d v z := by
  intro d v y z hg hr
  unfold GT at hg ⊢
  cases hl : tab.lookup d with
  | some x => rw [hl] at hg; exact hg
  | none => rw [hl] at hg; exact h v y z hg hr
theorem rlstep_of {P : Program} {ops : Array Oper} {G : Nat → Value → World → Prop} {Rel : World → World → Prop} {a0 : Act} {W0 : World} {Q : Exit → Act → World → Prop} {o : Oper} (h : ∀ (a : Act) (w : World), (∀ t, t ∉ dstsL ops → a.tmps[t]? = a0.tmps[t]?) → (∀ e ∈ o.after, ∀ (p : Oper) (d : Nat), ops[e.on]? = some p → p.dst = some d → Region.binds .any e = true → ∃ v, a.tmps[d]? = some v ∧ G d v w) → Rel W0 w →
    ∀ K : Act → World → Prop, (∀ v w', (∀ d, o.dst = some d → G d v w') → Rel w w' → K (a.put o.dst v) w') → o.wp P a w K Q) : RlStep P ops G Rel a0 W0 Q o := fun a w h1 h2 h3 => h a w h1 h2 h3 _ (fun v w' hg hr => ⟨v, rfl, hg, hr⟩)
/-- the same, the slots written out -/
theorem wp_region_lastL {P : Program} {ops : Array Oper} {Q : Exit → Act → World → Prop} {a0 : Act} {w : World} {id : Nat} (G : Nat → Value → World → Prop) (Rel : World → World → Prop) (ds : List Nat) (n : Nat) (hds : dstsL ops = ds) (hn : ops.size - 1 = n) (hr : ∀ x, Rel x x) (ht : ∀ x y z, Rel x y → Rel y z → Rel x z) (hm : P.follows .mixedOrders = true) (hR : rlB a0.tmps.size ops = true) (hG : ∀ d v w w', G d v w → Rel w w' → G d v w') (hS : ∀ (k : Nat) (o : Oper), k < ops.size - 1 → ops[k]? = some o → RlStep P ops G Rel a0 w.drew Q o)
    (hQ : ∀ vs w' o, ops[n]? = some o → Rel w.drew w' → (∀ d ∈ ds, G d (vs d) w') → o.wp P (putR vs ds a0) w' (fun a' w'' => Q .normal a' w'') Q) : (Code.region id ops true).wp P Q a0 w := by
  subst hds
  subst hn
  exact wp_region_last G Rel hr ht hm hR hG hS hQ
end Go.Proofs.Ytiapkblebbcfbaa.Gl
