/- A statement whose order is open, by properties of its operations' values: of no program. -/
import Derived.Orders
import Derived.Below
import Derived.Test.YtiapkblebbcfbaaGreatNmP
import Derived.Test.YtiapkblebbcfbaaGreatGlU
namespace Go.Proofs.YtiapkblebbcfbaaGreat.Gl
open Go Go.RowKit
set_option linter.unusedVariables false

/-- the frame with these slots written -/
def putR (vs : Nat → Value) : List Nat → Act → Act
  | [], a => a
  | d :: l, a => putR vs l (a.put (some d) (vs d))
/-- where each operation writes -/
def dstsOf (ops : Array Oper) : List Nat := ops.toList.filterMap (·.dst)
/-- what is asked of the operations, told by their text: each writes a slot of its own, none is guarded, each waits for earlier ones alone -/
def rgB (n : Nat) (ops : Array Oper) : Bool :=
  (List.range ops.size).all fun k => match ops[k]? with
    | some o => (match o.dst with | some d => decide (d < n) && (List.range ops.size).all (fun j => decide (j = k) || (match ops[j]? with | some p => decide (p.dst ≠ some d) | none => true)) | none => false) && o.guard.isNone && o.after.all (fun e => decide (e.on < k) || !Region.binds .any e)
    | none => false
structure Rg (n : Nat) (ops : Array Oper) : Prop where
  dst : ∀ (k : Nat) (o : Oper), ops[k]? = some o → ∃ d, o.dst = some d ∧ d < n
  one : ∀ (k : Nat) (o : Oper) (j : Nat) (p : Oper) (d : Nat), ops[k]? = some o → ops[j]? = some p → o.dst = some d → p.dst = some d → j = k
  guard : ∀ (k : Nat) (o : Oper), ops[k]? = some o → o.guard = none
  lex : ∀ (k : Nat) (o : Oper), ops[k]? = some o → ∀ e ∈ o.after, Region.binds .any e = true → e.on < k
theorem rg_of {n : Nat} {ops : Array Oper} (h : rgB n ops = true) : Rg n ops := by
  unfold rgB at h
  rw [List.all_eq_true] at h
  have key : ∀ (k : Nat) (o : Oper), ops[k]? = some o → ((match o.dst with | some d => decide (d < n) && (List.range ops.size).all (fun j => decide (j = k) || (match ops[j]? with | some p => decide (p.dst ≠ some d) | none => true)) | none => false) && o.guard.isNone && o.after.all (fun e => decide (e.on < k) || !Region.binds .any e)) = true := fun k o ho => by
    have := h k (List.mem_range.2 (Array.getElem?_eq_some_iff.1 ho).1)
    rw [ho] at this
    exact this
  refine ⟨fun k o ho => ?_, fun k o j p d ho hp hd hd' => ?_, fun k o ho => ?_, fun k o ho e he hb => ?_⟩
  · have := key k o ho
    cases hd : o.dst with
    | none => simp [hd] at this
    | some d => simp [hd] at this; exact ⟨d, rfl, this.1.1.1⟩
  · have := key k o ho
    simp only [hd, Bool.and_eq_true, List.all_eq_true] at this
    have h2 := this.1.1.2 j (List.mem_range.2 (Array.getElem?_eq_some_iff.1 hp).1)
    rw [hp] at h2
    simp only [Bool.or_eq_true, decide_eq_true_eq] at h2
    exact h2.resolve_right fun e => e hd'
  · have := key k o ho
    simp only [Bool.and_eq_true] at this
    simpa using this.1.2
  · have := key k o ho
    simp only [Bool.and_eq_true, Array.all_eq_true_iff_forall_mem, Bool.or_eq_true, decide_eq_true_eq, Bool.not_eq_true'] at this
    rcases this.2 e he with h | h
    · exact h
    · rw [hb] at h; cases h
/-- what is known on the way -/
structure RgI (ops : Array Oper) (G : Nat → Value → World → Prop) (a0 : Act) (W0 : World) (L : Nat → Prop) (a : Act) (w : World) : Prop where
  def' : a.defers = a0.defers
  size : a.tmps.size = a0.tmps.size
  old : ∀ t, t ∉ dstsOf ops → a.tmps[t]? = a0.tmps[t]?
  new : ∀ (k : Nat) (o : Oper) (d : Nat), ops[k]? = some o → o.dst = some d → L k → ∃ v, a.tmps[d]? = some v ∧ G d v w
  bel : Below W0.heap.size W0 w
theorem mem_dsts {ops : Array Oper} {d : Nat} (h : d ∈ dstsOf ops) : ∃ (k : Nat) (o : Oper), ops[k]? = some o ∧ o.dst = some d := by
  obtain ⟨o, ho, hd⟩ := List.mem_filterMap.1 h
  obtain ⟨k, hk⟩ := List.mem_iff_getElem?.1 ho
  have hk' : ops[k]? = some o := by rw [← Array.getElem?_toList]; exact hk
  exact ⟨k, o, hk', hd⟩
theorem dsts_mem {ops : Array Oper} {k d : Nat} {o : Oper} (h : ops[k]? = some o) (hd : o.dst = some d) : d ∈ dstsOf ops := by
  rw [← Array.getElem?_toList] at h
  exact List.mem_filterMap.2 ⟨o, List.mem_of_getElem? h, hd⟩
theorem RgI.put {ops : Array Oper} {G : Nat → Value → World → Prop} {a0 : Act} {W0 : World} {L : Nat → Prop} {a : Act} {w w' : World} (R : Rg a0.tmps.size ops) (hG : ∀ d v w w', G d v w → Below w.heap.size w w' → G d v w') (h : RgI ops G a0 W0 L a w) {k d : Nat} {o : Oper} {v : Value} (ho : ops[k]? = some o) (hd : o.dst = some d) (hv : G d v w') (hB : Below w.heap.size w w') :
    RgI ops G a0 W0 (fun j => j = k ∨ L j) (a.put o.dst v) w' := by
  obtain ⟨d', hd', hlt⟩ := R.dst k o ho
  rw [hd] at hd'
  cases hd'
  rw [hd]
  have hput : (a.put (some d) v).tmps = a.tmps.setIfInBounds d v := rfl
  refine ⟨h.def', by rw [hput, Array.size_setIfInBounds]; exact h.size, fun t ht => ?_, fun j p e hp he hj => ?_, h.bel.trans (hB.mono h.bel.size)⟩
  · have hne : d ≠ t := fun e => ht (e ▸ dsts_mem ho hd)
    rw [hput, Array.getElem?_setIfInBounds_ne hne]
    exact h.old t ht
  · by_cases hjk : j = k
    · subst hjk
      rw [ho] at hp
      cases hp
      rw [hd] at he
      cases he
      refine ⟨v, ?_, hv⟩
      rw [hput, Array.getElem?_setIfInBounds_self_of_lt (by rw [h.size]; exact hlt)]
    · obtain ⟨u, hu, hg⟩ := h.new j p e hp he (hj.resolve_left hjk)
      have hne : d ≠ e := fun x => hjk (R.one k o j p d ho hp hd (by rw [x]; exact he))
      exact ⟨u, by rw [hput, Array.getElem?_setIfInBounds_ne hne]; exact hu, hG _ _ _ _ hg hB⟩
/-- when all have come up, the frame is the first one with the slots written -/
theorem putR_size (vs : Nat → Value) : ∀ (l : List Nat) (a : Act), (putR vs l a).tmps.size = a.tmps.size := by
  intro l
  induction l with
  | nil => intro a; rfl
  | cons d l ih => intro a; rw [putR, ih]; exact Array.size_setIfInBounds
theorem putR_defers (vs : Nat → Value) : ∀ (l : List Nat) (a : Act), (putR vs l a).defers = a.defers := by
  intro l
  induction l with
  | nil => intro a; rfl
  | cons d l ih => intro a; rw [putR, ih]; rfl
theorem putR_get (vs : Nat → Value) : ∀ (l : List Nat) (a : Act) (t : Nat), (∀ d ∈ l, d < a.tmps.size) → (putR vs l a).tmps[t]? = if t ∈ l then some (vs t) else a.tmps[t]? := by
  intro l
  induction l with
  | nil => intro a t _; simp [putR]
  | cons d l ih =>
    intro a t hl
    have hs : (a.put (some d) (vs d)).tmps.size = a.tmps.size := Array.size_setIfInBounds
    rw [putR, ih _ _ (fun x hx => by rw [hs]; exact hl x (List.mem_cons_of_mem _ hx))]
    by_cases ht : t ∈ l
    · rw [if_pos ht, if_pos (List.mem_cons_of_mem _ ht)]
    · rw [if_neg ht]
      show (a.tmps.setIfInBounds d (vs d))[t]? = _
      by_cases hd : d = t
      · subst hd
        rw [if_pos (List.mem_cons_self ..), Array.getElem?_setIfInBounds_self_of_lt (hl _ (List.mem_cons_self ..))]
      · rw [Array.getElem?_setIfInBounds_ne hd, if_neg (fun e => by rcases List.mem_cons.1 e with e | e; exact hd e.symm; exact ht e)]
theorem RgI.end' {ops : Array Oper} {G : Nat → Value → World → Prop} {a0 : Act} {W0 : World} {L : Nat → Prop} {a : Act} {w : World} (R : Rg a0.tmps.size ops) (h : RgI ops G a0 W0 L a w) (hall : ∀ k, k < ops.size → L k) :
    a = putR (fun d => a.tmps.getD d undef) (dstsOf ops) a0 ∧ ∀ d ∈ dstsOf ops, G d (a.tmps.getD d undef) w := by
  have hlt : ∀ d ∈ dstsOf ops, d < a0.tmps.size := fun d hd => by
    obtain ⟨k, o, ho, hod⟩ := mem_dsts hd
    obtain ⟨d', hd', hl⟩ := R.dst k o ho
    rw [hod] at hd'; cases hd'; exact hl
  have hnew : ∀ d ∈ dstsOf ops, ∃ v, a.tmps[d]? = some v ∧ G d v w := fun d hd => by
    obtain ⟨k, o, ho, hod⟩ := mem_dsts hd
    exact h.new k o d ho hod (hall k (Array.getElem?_eq_some_iff.1 ho).1)
  refine ⟨?_, fun d hd => ?_⟩
  · have e1 : a.tmps = (putR (fun d => a.tmps.getD d undef) (dstsOf ops) a0).tmps := by
      apply Array.ext_getElem?
      intro t
      rw [putR_get _ _ _ _ hlt]
      by_cases ht : t ∈ dstsOf ops
      · rw [if_pos ht]
        obtain ⟨v, hv, _⟩ := hnew t ht
        rw [hv, Array.getD_eq_getD_getElem?, hv]
        rfl
      · rw [if_neg ht]
        exact h.old t ht
    have e2 : a.defers = (putR (fun d => a.tmps.getD d undef) (dstsOf ops) a0).defers := by rw [putR_defers]; exact h.def'
    generalize putR (fun d => a.tmps.getD d undef) (dstsOf ops) a0 = b at e1 e2
    cases a; cases b
    simp only at e1 e2
    rw [e1, e2]
  · obtain ⟨v, hv, hg⟩ := hnew d hd
    rw [Array.getD_eq_getD_getElem?, hv]
    exact hg
/-- one operation, from wherever it may come up: its value has its property, and memory has only grown -/
def RgStep (P : Program) (ops : Array Oper) (G : Nat → Value → World → Prop) (a0 : Act) (W0 : World) (Q : Exit → Act → World → Prop) (o : Oper) : Prop :=
  ∀ (a : Act) (w : World), (∀ t, t ∉ dstsOf ops → a.tmps[t]? = a0.tmps[t]?) → (∀ e ∈ o.after, ∀ (p : Oper) (d : Nat), ops[e.on]? = some p → p.dst = some d → Region.binds .any e = true → ∃ v, a.tmps[d]? = some v ∧ G d v w) → Below W0.heap.size W0 w →
    o.wp P a w (fun a' w' => ∃ v, a' = a.put o.dst v ∧ (∀ d, o.dst = some d → G d v w') ∧ Below w.heap.size w w') Q
theorem wpAny_props {P : Program} {ops : Array Oper} {Q : Exit → Act → World → Prop} {G : Nat → Value → World → Prop} {a0 : Act} {W0 : World} (R : Rg a0.tmps.size ops) (hG : ∀ d v w w', G d v w → Below w.heap.size w w' → G d v w') (hS : ∀ (k : Nat) (o : Oper), ops[k]? = some o → RgStep P ops G a0 W0 Q o)
    (hQ : ∀ vs w, Below W0.heap.size W0 w → (∀ d ∈ dstsOf ops, G d (vs d) w) → Q .normal (putR vs (dstsOf ops) a0) w) :
    ∀ (fuel : Nat) (listed : Array Bool) (a : Act) (w : World), listed.size = ops.size → (listed.toList.filter (! ·)).length ≤ fuel → RgI ops G a0 W0 (fun k => listed.getD k false = true) a w → wpAny P .any ops Q fuel listed a w := by
  have hend : ∀ (listed : Array Bool) (a : Act) (w : World), listed.size = ops.size → Region.ready .any ops listed = [] → RgI ops G a0 W0 (fun k => listed.getD k false = true) a w → Q .normal a w := by
    intro listed a w hs hr hI
    have hall : ∀ k, k < ops.size → listed.getD k false = true := by
      intro k
      induction k using Nat.strongRecOn with
      | _ k ih =>
        intro hk
        cases hc : listed.getD k false with
        | true => rfl
        | false =>
          have ho : ops[k]? = some ops[k] := Array.getElem?_eq_getElem hk
          have : k ∈ Region.ready .any ops listed := mem_ready.2 ⟨by rw [Array.getD_eq_getD_getElem?, Array.getElem?_eq_getElem (by omega)] at hc ⊢; exact hc, _, ho, fun e he hb => ih e.on (R.lex k _ ho e he hb) (by have := R.lex k _ ho e he hb; omega)⟩
          rw [hr] at this
          cases this
    obtain ⟨e, hg⟩ := hI.end' R hall
    rw [e]
    exact hQ _ w hI.bel hg
  intro fuel
  induction fuel with
  | zero =>
    intro listed a w hs hf hI
    have hnil : Region.ready .any ops listed = [] := by
      cases hr : Region.ready .any ops listed with
      | nil => rfl
      | cons i l =>
        have hi : i ∈ Region.ready .any ops listed := by rw [hr]; exact List.mem_cons_self ..
        obtain ⟨h0, o, ho, _⟩ := mem_ready.1 hi
        have hlt : i < listed.size := by rw [hs]; exact (Array.getElem?_eq_some_iff.1 ho).1
        have hmem : false ∈ listed.toList := by
          rw [Array.getD_eq_getD_getElem?, Array.getElem?_eq_getElem hlt] at h0
          have h0' : listed[i] = false := h0
          rw [← h0']
          exact Array.getElem_mem_toList ..
        have hmem2 : false ∈ listed.toList.filter (! ·) := List.mem_filter.2 ⟨hmem, rfl⟩
        have := List.length_pos_of_mem hmem2
        omega
    exact ⟨hnil, hend listed a w hs hnil hI⟩
  | succ fuel ih =>
    intro listed a w hs hf hI
    refine ⟨fun hr => hend listed a w hs hr hI, fun i hi => ?_⟩
    obtain ⟨h0, o, ho, hall⟩ := mem_ready.1 hi
    have hlt : i < listed.size := by rw [hs]; exact (Array.getElem?_eq_some_iff.1 ho).1
    obtain ⟨d, hd, _⟩ := R.dst i o ho
    have hw : Region.wanted o (yielded ops a.tmps) = true := by simp [Region.wanted, R.guard i o ho]
    unfold wpOp
    rw [ho]
    simp only [hw, if_true]
    refine .inl (Oper.wp_mono (fun a' w' ⟨v, ha, hv, hB⟩ => ?_) (hS i o ho a w hI.old (fun e he p d' hp hd' hb => hI.new e.on p d' hp hd' (hall e he hb)) hI.bel))
    subst ha
    have hI' := hI.put R hG ho hd (hv d hd) hB
    refine ih _ _ _ (by rw [Array.size_setIfInBounds]; exact hs) ?_ ⟨hI'.def', hI'.size, hI'.old, fun k p d' hp hd' hk => hI'.new k p d' hp hd' ?_, hI'.bel⟩
    · have hc : (listed.setIfInBounds i true).toList = listed.toList.set i true := Array.toList_setIfInBounds ..
      rw [hc]
      have h0' : listed.toList[i]'(by simpa using hlt) = false := by
        rw [Array.getD_eq_getD_getElem?, Array.getElem?_eq_getElem hlt] at h0
        simpa using h0
      have key : ∀ (l : List Bool) (i : Nat) (hi : i < l.length), l[i] = false → ((l.set i true).filter (! ·)).length + 1 = (l.filter (! ·)).length := by
        intro l
        induction l with
        | nil => intro i hi; simp at hi
        | cons x l ihl =>
          intro i hi hx
          cases i with
          | zero => simp at hx; subst hx; simp
          | succ i =>
            have := ihl i (by simpa using hi) (by simpa using hx)
            cases x <;> simp at this ⊢ <;> omega
      have := key listed.toList i (by simpa using hlt) h0'
      omega
    · by_cases hki : k = i
      · exact .inl hki
      · rw [getD_set_ne false (Ne.symm hki)] at hk
        exact .inr hk
/-- the statement itself -/
theorem wp_region_props {P : Program} {ops : Array Oper} {Q : Exit → Act → World → Prop} {a0 : Act} {w : World} {id : Nat} (G : Nat → Value → World → Prop) (hm : P.follows .mixedOrders = true) (hR : rgB a0.tmps.size ops = true) (hG : ∀ d v w w', G d v w → Below w.heap.size w w' → G d v w') (hS : ∀ (k : Nat) (o : Oper), ops[k]? = some o → RgStep P ops G a0 w.drew Q o)
    (hQ : ∀ vs w', Below w.drew.heap.size w.drew w' → (∀ d ∈ dstsOf ops, G d (vs d) w') → Q .normal (putR vs (dstsOf ops) a0) w') : (Code.region id ops true).wp P Q a0 w := by
  refine wp_region_any hm (wpAny_props (W0 := w.drew) (rg_of hR) hG hS hQ ops.size _ a0 w.drew (Array.size_replicate ..) ?_ ⟨rfl, rfl, fun _ _ => rfl, fun k o d ho hd hk => ?_, Below.refl _ _⟩)
  · refine Nat.le_trans (List.length_filter_le _ _) ?_
    simp
  · have hlt := (Array.getElem?_eq_some_iff.1 ho).1
    simp [hlt] at hk
end Go.Proofs.YtiapkblebbcfbaaGreat.Gl
/- A statement whose order is open and which ends in a store, by properties of its operations' values: of no program. -/
namespace Go.Proofs.YtiapkblebbcfbaaGreat.Gl
open Go Go.RowKit
set_option linter.unusedVariables false

/-- where each operation but the last one writes -/
def dstsL (ops : Array Oper) : List Nat := ops.toList.dropLast.filterMap (·.dst)
/-- what is asked of the operations, told by their text: each but the last one writes a slot of its own, none is guarded, each waits for earlier ones alone, something waits for each but the last -/
def rlB (n : Nat) (ops : Array Oper) : Bool :=
  (List.range ops.toList.dropLast.length).all (fun k => match ops.toList.dropLast[k]? with
    | some o => (match o.dst with | some d => decide (d < n) && (List.range ops.toList.dropLast.length).all (fun j => decide (j = k) || (match ops.toList.dropLast[j]? with | some p => decide (p.dst ≠ some d) | none => true)) | none => false) && o.guard.isNone && o.after.all (fun e => decide (e.on < k)) && (List.range ops.size).any (fun j => decide (k < j) && (match ops[j]? with | some p => p.after.any (fun e => decide (e.on = k) && Region.binds .any e) | none => false))
    | none => false) && (match ops[ops.size - 1]? with | some o => o.guard.isNone && o.after.all (fun e => decide (e.on < ops.size - 1)) | none => false)
structure Rl (n : Nat) (ops : Array Oper) : Prop where
  dst : ∀ (k : Nat) (o : Oper), k < ops.size - 1 → ops[k]? = some o → ∃ d, o.dst = some d ∧ d < n
  one : ∀ (k : Nat) (o : Oper) (j : Nat) (p : Oper) (d : Nat), k < ops.size - 1 → j < ops.size - 1 → ops[k]? = some o → ops[j]? = some p → o.dst = some d → p.dst = some d → j = k
  guard : ∀ (k : Nat) (o : Oper), ops[k]? = some o → o.guard = none
  lex : ∀ (k : Nat) (o : Oper), ops[k]? = some o → ∀ e ∈ o.after, e.on < k
  next : ∀ (k : Nat), k < ops.size - 1 → ∃ (j : Nat) (p : Oper), k < j ∧ ops[j]? = some p ∧ ∃ e ∈ p.after, e.on = k ∧ Region.binds .any e = true
  pos : 0 < ops.size
theorem dropLast_get (ops : Array Oper) (k : Nat) (h : k < ops.size - 1) : ops.toList.dropLast[k]? = ops[k]? := by
  rw [List.getElem?_dropLast, if_pos (by simpa using h), Array.getElem?_toList]
theorem dropLast_len (ops : Array Oper) : ops.toList.dropLast.length = ops.size - 1 := by simp
theorem rl_of {n : Nat} {ops : Array Oper} (h : rlB n ops = true) : Rl n ops := by
  unfold rlB at h
  rw [Bool.and_eq_true, List.all_eq_true] at h
  obtain ⟨h, hl⟩ := h
  have hpos : 0 < ops.size := by
    rcases Nat.eq_zero_or_pos ops.size with hz | hz
    · have : ops[ops.size - 1]? = none := by rw [Array.getElem?_eq_none]; omega
      rw [this] at hl; cases hl
    · exact hz
  have key : ∀ (k : Nat) (o : Oper), k < ops.size - 1 → ops[k]? = some o → ((match o.dst with | some d => decide (d < n) && (List.range ops.toList.dropLast.length).all (fun j => decide (j = k) || (match ops.toList.dropLast[j]? with | some p => decide (p.dst ≠ some d) | none => true)) | none => false) && o.guard.isNone && o.after.all (fun e => decide (e.on < k)) && (List.range ops.size).any (fun j => decide (k < j) && (match ops[j]? with | some p => p.after.any (fun e => decide (e.on = k) && Region.binds .any e) | none => false))) = true := fun k o hk ho => by
    have := h k (List.mem_range.2 (by rw [dropLast_len]; exact hk))
    rw [dropLast_get ops k hk, ho] at this
    exact this
  have lastk : ∀ o, ops[ops.size - 1]? = some o → (o.guard.isNone && o.after.all (fun e => decide (e.on < ops.size - 1))) = true := fun o ho => by
    rw [ho] at hl
    exact hl
  have split : ∀ (k : Nat) (o : Oper), ops[k]? = some o → k < ops.size - 1 ∨ k = ops.size - 1 := fun k o ho => by
    have := (Array.getElem?_eq_some_iff.1 ho).1
    omega
  refine ⟨fun k o hk ho => ?_, fun k o j p d hk hj ho hp hd hd' => ?_, fun k o ho => ?_, fun k o ho e he => ?_, fun k hk => ?_, hpos⟩
  · have := key k o hk ho
    cases hd : o.dst with
    | none => simp [hd] at this
    | some d =>
      simp only [hd, Bool.and_eq_true, decide_eq_true_eq] at this
      exact ⟨d, rfl, this.1.1.1.1⟩
  · have := key k o hk ho
    simp only [hd, Bool.and_eq_true, List.all_eq_true] at this
    have h2 := this.1.1.1.2 j (List.mem_range.2 (by rw [dropLast_len]; exact hj))
    rw [dropLast_get ops j hj, hp] at h2
    simp only [Bool.or_eq_true, decide_eq_true_eq] at h2
    exact h2.resolve_right fun e => e hd'
  · rcases split k o ho with hk | rfl
    · have := key k o hk ho
      simp only [Bool.and_eq_true] at this
      simpa using this.1.1.2
    · have := lastk o ho
      simp only [Bool.and_eq_true] at this
      simpa using this.1
  · rcases split k o ho with hk | rfl
    · have := key k o hk ho
      simp only [Bool.and_eq_true, Array.all_eq_true_iff_forall_mem, decide_eq_true_eq] at this
      exact this.1.2 e he
    · have := lastk o ho
      simp only [Bool.and_eq_true, Array.all_eq_true_iff_forall_mem, decide_eq_true_eq] at this
      exact this.2 e he
  · have ho : ops[k]? = some ops[k] := Array.getElem?_eq_getElem (by omega)
    have := key k _ hk ho
    simp only [Bool.and_eq_true, List.any_eq_true] at this
    obtain ⟨j, hj, hkj, h2⟩ := this.2
    have hj' := List.mem_range.1 hj
    rw [Array.getElem?_eq_getElem hj'] at h2
    replace h2 : (ops[j].after.any fun e => decide (e.on = k) && Region.binds .any e) = true := h2
    rw [← Array.any_toList, List.any_eq_true] at h2
    obtain ⟨e, he, h3⟩ := h2
    rw [Bool.and_eq_true, decide_eq_true_eq] at h3
    exact ⟨j, _, by simpa using hkj, Array.getElem?_eq_getElem hj', e, by simpa using he, h3.1, h3.2⟩
/-- what is known on the way -/
structure RlI (ops : Array Oper) (G : Nat → Value → World → Prop) (Rel : World → World → Prop) (a0 : Act) (W0 : World) (L : Nat → Prop) (a : Act) (w : World) : Prop where
  def' : a.defers = a0.defers
  size : a.tmps.size = a0.tmps.size
  old : ∀ t, t ∉ dstsL ops → a.tmps[t]? = a0.tmps[t]?
  new : ∀ (k : Nat) (o : Oper) (d : Nat), k < ops.size - 1 → ops[k]? = some o → o.dst = some d → L k → ∃ v, a.tmps[d]? = some v ∧ G d v w
  rel : Rel W0 w
  down : ∀ (k : Nat) (o : Oper), ops[k]? = some o → L k → ∀ e ∈ o.after, Region.binds .any e = true → L e.on
theorem mem_dstsL {ops : Array Oper} {d : Nat} (h : d ∈ dstsL ops) : ∃ (k : Nat) (o : Oper), k < ops.size - 1 ∧ ops[k]? = some o ∧ o.dst = some d := by
  obtain ⟨o, ho, hd⟩ := List.mem_filterMap.1 h
  obtain ⟨k, hk⟩ := List.mem_iff_getElem?.1 ho
  have hlt : k < ops.size - 1 := by
    have := (List.getElem?_eq_some_iff.1 hk).1
    rw [dropLast_len] at this; exact this
  exact ⟨k, o, hlt, by rw [← dropLast_get ops k hlt]; exact hk, hd⟩
theorem dstsL_mem {ops : Array Oper} {k d : Nat} {o : Oper} (hk : k < ops.size - 1) (h : ops[k]? = some o) (hd : o.dst = some d) : d ∈ dstsL ops := by
  rw [← dropLast_get ops k hk] at h
  exact List.mem_filterMap.2 ⟨o, List.mem_of_getElem? h, hd⟩
/-- one operation, from wherever it may come up: its value has its property, and memory has turned as it may -/
def RlStep (P : Program) (ops : Array Oper) (G : Nat → Value → World → Prop) (Rel : World → World → Prop) (a0 : Act) (W0 : World) (Q : Exit → Act → World → Prop) (o : Oper) : Prop :=
  ∀ (a : Act) (w : World), (∀ t, t ∉ dstsL ops → a.tmps[t]? = a0.tmps[t]?) → (∀ e ∈ o.after, ∀ (p : Oper) (d : Nat), ops[e.on]? = some p → p.dst = some d → Region.binds .any e = true → ∃ v, a.tmps[d]? = some v ∧ G d v w) → Rel W0 w →
    o.wp P a w (fun a' w' => ∃ v, a' = a.put o.dst v ∧ (∀ d, o.dst = some d → G d v w') ∧ Rel w w') Q
theorem RlI.put {ops : Array Oper} {G : Nat → Value → World → Prop} {Rel : World → World → Prop} (ht : ∀ x y z, Rel x y → Rel y z → Rel x z) {a0 : Act} {W0 : World} {L : Nat → Prop} {a : Act} {w w' : World} (R : Rl a0.tmps.size ops) (hG : ∀ d v w w', G d v w → Rel w w' → G d v w') (h : RlI ops G Rel a0 W0 L a w) {k d : Nat} {o : Oper} {v : Value} (hk : k < ops.size - 1) (ho : ops[k]? = some o) (hd : o.dst = some d) (hv : G d v w') (hB : Rel w w') (hdn : ∀ e ∈ o.after, Region.binds .any e = true → L e.on) :
    RlI ops G Rel a0 W0 (fun j => j = k ∨ L j) (a.put o.dst v) w' := by
  obtain ⟨d', hd', hlt⟩ := R.dst k o hk ho
  rw [hd] at hd'
  cases hd'
  rw [hd]
  have hput : (a.put (some d) v).tmps = a.tmps.setIfInBounds d v := rfl
  refine ⟨h.def', by rw [hput, Array.size_setIfInBounds]; exact h.size, fun t ht => ?_, fun j p e hj hp he hL => ?_, ht _ _ _ h.rel hB, fun j p hp hL e he hb => ?_⟩
  · have hne : d ≠ t := fun e => ht (e ▸ dstsL_mem hk ho hd)
    rw [hput, Array.getElem?_setIfInBounds_ne hne]
    exact h.old t ht
  · by_cases hjk : j = k
    · subst hjk
      rw [ho] at hp
      cases hp
      rw [hd] at he
      cases he
      refine ⟨v, ?_, hv⟩
      rw [hput, Array.getElem?_setIfInBounds_self_of_lt (by rw [h.size]; exact hlt)]
    · obtain ⟨u, hu, hg⟩ := h.new j p e hj hp he (hL.resolve_left hjk)
      have hne : d ≠ e := fun x => hjk (R.one k o j p d hk hj ho hp hd (by rw [x]; exact he))
      exact ⟨u, by rw [hput, Array.getElem?_setIfInBounds_ne hne]; exact hu, hG _ _ _ _ hg hB⟩
  · rcases hL with rfl | hL
    · rw [ho] at hp; cases hp
      exact .inr (hdn e he hb)
    · exact .inr (h.down j p hp hL e he hb)
theorem RlI.end' {ops : Array Oper} {G : Nat → Value → World → Prop} {Rel : World → World → Prop} {a0 : Act} {W0 : World} {L : Nat → Prop} {a : Act} {w : World} (R : Rl a0.tmps.size ops) (h : RlI ops G Rel a0 W0 L a w) (hall : ∀ k, k < ops.size - 1 → L k) :
    a = putR (fun d => a.tmps.getD d undef) (dstsL ops) a0 ∧ ∀ d ∈ dstsL ops, G d (a.tmps.getD d undef) w := by
  have hlt : ∀ d ∈ dstsL ops, d < a0.tmps.size := fun d hd => by
    obtain ⟨k, o, hk, ho, hod⟩ := mem_dstsL hd
    obtain ⟨d', hd', hl⟩ := R.dst k o hk ho
    rw [hod] at hd'; cases hd'; exact hl
  have hnew : ∀ d ∈ dstsL ops, ∃ v, a.tmps[d]? = some v ∧ G d v w := fun d hd => by
    obtain ⟨k, o, hk, ho, hod⟩ := mem_dstsL hd
    exact h.new k o d hk ho hod (hall k hk)
  refine ⟨?_, fun d hd => ?_⟩
  · have e1 : a.tmps = (putR (fun d => a.tmps.getD d undef) (dstsL ops) a0).tmps := by
      apply Array.ext_getElem?
      intro t
      rw [putR_get _ _ _ _ hlt]
      by_cases ht : t ∈ dstsL ops
      · rw [if_pos ht]
        obtain ⟨v, hv, _⟩ := hnew t ht
        rw [hv, Array.getD_eq_getD_getElem?, hv]
        rfl
      · rw [if_neg ht]
        exact h.old t ht
    have e2 : a.defers = (putR (fun d => a.tmps.getD d undef) (dstsL ops) a0).defers := by rw [putR_defers]; exact h.def'
    generalize putR (fun d => a.tmps.getD d undef) (dstsL ops) a0 = b at e1 e2
    cases a; cases b
    simp only at e1 e2
    rw [e1, e2]
  · obtain ⟨v, hv, hg⟩ := hnew d hd
    rw [Array.getD_eq_getD_getElem?, hv]
    exact hg
theorem filt_lt : ∀ (l : List Bool) (i : Nat) (hi : i < l.length), l[i] = false → ((l.set i true).filter (! ·)).length + 1 = (l.filter (! ·)).length := by
  intro l
  induction l with
  | nil => intro i hi; simp at hi
  | cons x l ihl =>
    intro i hi hx
    cases i with
    | zero => simp at hx; subst hx; simp
    | succ i =>
      have := ihl i (by simpa using hi) (by simpa using hx)
      cases x <;> simp at this ⊢ <;> omega
theorem wpAny_last {P : Program} {ops : Array Oper} {Q : Exit → Act → World → Prop} {G : Nat → Value → World → Prop} {Rel : World → World → Prop} (ht : ∀ x y z, Rel x y → Rel y z → Rel x z) {a0 : Act} {W0 : World} (R : Rl a0.tmps.size ops) (hG : ∀ d v w w', G d v w → Rel w w' → G d v w') (hS : ∀ (k : Nat) (o : Oper), k < ops.size - 1 → ops[k]? = some o → RlStep P ops G Rel a0 W0 Q o)
    (hQ : ∀ vs w o, ops[ops.size - 1]? = some o → Rel W0 w → (∀ d ∈ dstsL ops, G d (vs d) w) → o.wp P (putR vs (dstsL ops) a0) w (fun a' w' => Q .normal a' w') Q) :
    ∀ (fuel : Nat) (listed : Array Bool) (a : Act) (w : World), listed.size = ops.size → listed.getD (ops.size - 1) true = false → (listed.toList.filter (! ·)).length ≤ fuel → RlI ops G Rel a0 W0 (fun k => listed.getD k false = true) a w → wpAny P .any ops Q fuel listed a w := by
  have hpos := R.pos
  have nolist : ∀ (listed : Array Bool) (k : Nat), listed.size = ops.size → k < ops.size → (listed.getD k true = false ↔ ¬ listed.getD k false = true) := fun listed k hs hk => by
    rw [Array.getD_eq_getD_getElem?, Array.getD_eq_getD_getElem?, Array.getElem?_eq_getElem (by omega)]
    simp
  -- something is ready while the last one is not listed
  have hrdy : ∀ (listed : Array Bool) (a : Act) (w : World), listed.size = ops.size → listed.getD (ops.size - 1) true = false → Region.ready .any ops listed ≠ [] := by
    intro listed a w hs hl hr
    have hall : ∀ k, k < ops.size → listed.getD k false = true := by
      intro k
      induction k using Nat.strongRecOn with
      | _ k ih =>
        intro hk
        cases hc : listed.getD k false with
        | true => rfl
        | false =>
          have ho : ops[k]? = some ops[k] := Array.getElem?_eq_getElem hk
          have : k ∈ Region.ready .any ops listed := mem_ready.2 ⟨(nolist listed k hs hk).2 (by rw [hc]; simp), _, ho, fun e he _ => ih e.on (R.lex k _ ho e he) (by have := R.lex k _ ho e he; omega)⟩
          rw [hr] at this
          cases this
    exact (nolist listed _ hs (by omega)).1 hl (hall _ (by omega))
  intro fuel
  induction fuel with
  | zero =>
    intro listed a w hs hl hf hI
    exfalso
    have hlt : ops.size - 1 < listed.size := by omega
    have hmem : false ∈ listed.toList := by
      rw [Array.getD_eq_getD_getElem?, Array.getElem?_eq_getElem hlt] at hl
      have h0' : listed[ops.size - 1] = false := hl
      rw [← h0']
      exact Array.getElem_mem_toList ..
    have hmem2 : false ∈ listed.toList.filter (! ·) := List.mem_filter.2 ⟨hmem, rfl⟩
    have := List.length_pos_of_mem hmem2
    omega
  | succ fuel ih =>
    intro listed a w hs hl hf hI
    refine ⟨fun hr => absurd hr (hrdy listed a w hs hl), fun i hi => ?_⟩
    obtain ⟨h0, o, ho, hall⟩ := mem_ready.1 hi
    have hio : i < ops.size := (Array.getElem?_eq_some_iff.1 ho).1
    have hlt : i < listed.size := by omega
    have hw : Region.wanted o (yielded ops a.tmps) = true := by simp [Region.wanted, R.guard i o ho]
    unfold wpOp
    rw [ho]
    simp only [hw, if_true]
    have hc : (listed.setIfInBounds i true).toList = listed.toList.set i true := Array.toList_setIfInBounds ..
    have h0' : listed.toList[i]'(by simpa using hlt) = false := by
      rw [Array.getD_eq_getD_getElem?, Array.getElem?_eq_getElem hlt] at h0
      simpa using h0
    have hflt := filt_lt listed.toList i (by simpa using hlt) h0'
    by_cases hil : i = ops.size - 1
    · subst hil
      -- all others have come up
      have hothers : ∀ m k, k < ops.size - 1 → ops.size - 1 - k ≤ m → listed.getD k false = true := by
        intro m
        induction m with
        | zero => intro k hk hm; omega
        | succ m ihm =>
          intro k hk hm
          obtain ⟨j, p, hkj, hp, e, he, hek, hb⟩ := R.next k hk
          have hjs := (Array.getElem?_eq_some_iff.1 hp).1
          by_cases hjl : j = ops.size - 1
          · subst hjl
            rw [ho] at hp; cases hp
            rw [← hek]
            exact hall e he hb
          · have hj := ihm j (by omega) (by omega)
            rw [← hek]
            exact hI.down j p hp hj e he hb
      obtain ⟨e, hg⟩ := hI.end' R (fun k hk => hothers _ k hk (Nat.le_refl _))
      have hgo := hQ (fun d => a.tmps.getD d undef) w o ho hI.rel hg
      rw [← e] at hgo
      refine .inl (Oper.wp_mono (fun a' w' hq => ?_) hgo)
      have hnil : Region.ready .any ops (listed.setIfInBounds (ops.size - 1) true) = [] := by
        cases hr : Region.ready .any ops (listed.setIfInBounds (ops.size - 1) true) with
        | nil => rfl
        | cons i l =>
          have hi : i ∈ Region.ready .any ops (listed.setIfInBounds (ops.size - 1) true) := by rw [hr]; exact List.mem_cons_self ..
          obtain ⟨k0, o', ho', _⟩ := mem_ready.1 hi
          have hi' := (Array.getElem?_eq_some_iff.1 ho').1
          by_cases hin : i = ops.size - 1
          · subst hin
            rw [Array.getD_eq_getD_getElem?, Array.getElem?_setIfInBounds_self_of_lt hlt] at k0
            cases k0
          · have := hothers _ i (by omega) (Nat.le_refl _)
            rw [Array.getD_eq_getD_getElem?, Array.getElem?_setIfInBounds_ne (Ne.symm hin), ← Array.getD_eq_getD_getElem?] at k0
            exact absurd this ((nolist listed i hs hi').1 k0)
      cases fuel with
      | zero => exact ⟨hnil, hq⟩
      | succ f => exact ⟨fun _ => hq, fun i hi => by rw [hnil] at hi; cases hi⟩
    · have hik : i < ops.size - 1 := by omega
      obtain ⟨d, hd, _⟩ := R.dst i o hik ho
      refine .inl (Oper.wp_mono (fun a' w' ⟨v, ha, hv, hB⟩ => ?_) (hS i o hik ho a w hI.old (fun e he p d' hp hd' hb => by
        have hel := R.lex i o ho e he
        exact hI.new e.on p d' (by omega) hp hd' (hall e he hb)) hI.rel))
      subst ha
      have hI' := hI.put ht R hG hik ho hd (hv d hd) hB hall
      refine ih _ _ _ (by rw [Array.size_setIfInBounds]; exact hs) ?_ (by rw [hc]; omega) ⟨hI'.def', hI'.size, hI'.old, fun k p d' hk hp hd' hkk => hI'.new k p d' hk hp hd' ?_, hI'.rel, fun k p hp hkk e he hb => ?_⟩
      · rw [Array.getD_eq_getD_getElem?, Array.getElem?_setIfInBounds_ne hil, ← Array.getD_eq_getD_getElem?]
        exact hl
      · by_cases hki : k = i
        · exact .inl hki
        · rw [getD_set_ne false (Ne.symm hki)] at hkk
          exact .inr hkk
      · have hkk' : k = i ∨ listed.getD k false = true := by
          by_cases hki : k = i
          · exact .inl hki
          · rw [getD_set_ne false (Ne.symm hki)] at hkk
            exact .inr hkk
        rcases hI'.down k p hp hkk' e he hb with h | h
        · rw [h, Array.getD_eq_getD_getElem?, Array.getElem?_setIfInBounds_self_of_lt hlt]; rfl
        · by_cases hei : e.on = i
          · rw [hei, Array.getD_eq_getD_getElem?, Array.getElem?_setIfInBounds_self_of_lt hlt]; rfl
          · rw [getD_set_ne false (Ne.symm hei)]; exact h
/-- the statement itself -/
theorem wp_region_last {P : Program} {ops : Array Oper} {Q : Exit → Act → World → Prop} {a0 : Act} {w : World} {id : Nat} (G : Nat → Value → World → Prop) (Rel : World → World → Prop) (hr : ∀ x, Rel x x) (ht : ∀ x y z, Rel x y → Rel y z → Rel x z) (hm : P.follows .mixedOrders = true) (hR : rlB a0.tmps.size ops = true) (hG : ∀ d v w w', G d v w → Rel w w' → G d v w') (hS : ∀ (k : Nat) (o : Oper), k < ops.size - 1 → ops[k]? = some o → RlStep P ops G Rel a0 w.drew Q o)
    (hQ : ∀ vs w' o, ops[ops.size - 1]? = some o → Rel w.drew w' → (∀ d ∈ dstsL ops, G d (vs d) w') → o.wp P (putR vs (dstsL ops) a0) w' (fun a' w'' => Q .normal a' w'') Q) : (Code.region id ops true).wp P Q a0 w := by
  have R := rl_of hR
  have hpos := R.pos
  refine wp_region_any hm (wpAny_last ht (W0 := w.drew) R hG hS hQ ops.size _ a0 w.drew (Array.size_replicate ..) ?_ ?_ ⟨rfl, rfl, fun _ _ => rfl, fun k o d hk ho hd hL => ?_, hr _, fun k o ho hL => ?_⟩)
  · rw [Array.getD_eq_getD_getElem?, Array.getElem?_replicate, if_pos (by omega)]; rfl
  · refine Nat.le_trans (List.length_filter_le _ _) ?_
    simp
  · have hlt := (Array.getElem?_eq_some_iff.1 ho).1
    simp [hlt] at hL
  · have hlt := (Array.getElem?_eq_some_iff.1 ho).1
    simp [hlt] at hL
theorem eval_tmp9 {a : Act} {t : Nat} {v : Value} (h : a.tmps[t]? = some v) : a.eval (.tmp t) = v := by
  show a.tmps.getD t undef = v
  rw [Array.getD_eq_getD_getElem?, h]
  rfl
/-- properties by a table of values, and one slot more -/
def GT (tab : List (Nat × Value)) (S : Value → World → Prop) (d : Nat) (v : Value) (w : World) : Prop := match tab.lookup d with | some x => v = x | none => S v w
theorem gt_keep {tab : List (Nat × Value)} {S : Value → World → Prop} {Rel : World → World → Prop} (h : ∀ v y z, S v y → Rel y z → S v z) : ∀ d v y z, GT tab S d v y → Rel y z → GT tab S d v z := by
  intro d v y z hg hr
  unfold GT at hg ⊢
  cases hl : tab.lookup d with
  | some x => rw [hl] at hg; exact hg
  | none => rw [hl] at hg; exact h v y z hg hr
theorem rlstep_of {P : Program} {ops : Array Oper} {G : Nat → Value → World → Prop} {Rel : World → World → Prop} {a0 : Act} {W0 : World} {Q : Exit → Act → World → Prop} {o : Oper} (h : ∀ (a : Act) (w : World), (∀ t, t ∉ dstsL ops → a.tmps[t]? = a0.tmps[t]?) → (∀ e ∈ o.after, ∀ (p : Oper) (d : Nat), ops[e.on]? = some p → p.dst = some d → Region.binds .any e = true → ∃ v, a.tmps[d]? = some v ∧ G d v w) → Rel W0 w →
    ∀ K : Act → World → Prop, (∀ v w', (∀ d, o.dst = some d → G d v w') → Rel w w' → K (a.put o.dst v) w') → o.wp P a w K Q) : RlStep P ops G Rel a0 W0 Q o := fun a w h1 h2 h3 => h a w h1 h2 h3 _ (fun v w' hg hr => ⟨v, rfl, hg, hr⟩)
/-- the same, the slots written out -/
theorem wp_region_lastL {P : Program} {ops : Array Oper} {Q : Exit → Act → World → Prop} {a0 : Act} {w : World} {id : Nat} (G : Nat → Value → World → Prop) (Rel : World → World → Prop) (ds : List Nat) (n : Nat) (hds : dstsL ops = ds) (hn : ops.size - 1 = n) (hr : ∀ x, Rel x x) (ht : ∀ x y z, Rel x y → Rel y z → Rel x z) (hm : P.follows .mixedOrders = true) (hR : rlB a0.tmps.size ops = true) (hG : ∀ d v w w', G d v w → Rel w w' → G d v w') (hS : ∀ (k : Nat) (o : Oper), k < ops.size - 1 → ops[k]? = some o → RlStep P ops G Rel a0 w.drew Q o)
    (hQ : ∀ vs w' o, ops[n]? = some o → Rel w.drew w' → (∀ d ∈ ds, G d (vs d) w') → o.wp P (putR vs ds a0) w' (fun a' w'' => Q .normal a' w'') Q) : (Code.region id ops true).wp P Q a0 w := by
  subst hds
  subst hn
  exact wp_region_last G Rel hr ht hm hR hG hS hQ
end Go.Proofs.YtiapkblebbcfbaaGreat.Gl
/- An append onto an empty slice that nobody else has, as an operation: for drawn statements. -/
namespace Go.Proofs.YtiapkblebbcfbaaGreat.Gl
open Go Go.RowKit
set_option linter.unusedVariables false
set_option linter.unusedSimpArgs false

theorem setRow_same {w : World} {p : Nat} {cs : Array Value} {t : TypeId} {fr : Nat × Nat} (h : w.heap[p]? = some (.cells cs t fr)) : w.setRow p cs = w := by
  unfold World.setRow
  cases w with
  | mk heap tape drawn os output =>
    simp only [World.mk.injEq, and_self, and_true]
    apply Array.ext_getElem?
    intro k
    rw [Array.getElem?_modify]
    split
    · next hk => subst hk; rw [show heap[p]? = _ from h]; rfl
    · rfl
/-- the slice's row is a block of cells of that type -/
def Bk (w : World) (a : Option Addr) (t : TypeId) : Prop := ∀ ad, a = some ad → ∃ cur, w.heap[ad.block]? = some (.cells cur t (0, 0))
theorem Bk.below {w w' : World} {a : Option Addr} {t : TypeId} (h : Bk w a t) (hb : Below w.heap.size w w') : Bk w' a t := fun ad e => by
  obtain ⟨cur, hc⟩ := h ad e
  exact ⟨cur, (hb.block _ (Array.getElem?_eq_some_iff.1 hc).1).trans hc⟩
theorem Bk.ne {w : World} {a : Option Addr} {t u : TypeId} {p : Nat} {vs : Array Value} (h : Bk w a t) (hp : Rb w p vs u) (hne : t ≠ u) : ∀ ad, a = some ad → ad.block ≠ p := fun ad e k => by
  obtain ⟨cur, hc⟩ := h ad e
  rw [k] at hc
  have := hc.symm.trans hp
  simp only [Option.some.injEq, Obj.cells.injEq] at this
  exact hne this.2.1
theorem bk_of_owns {w : World} {base n m c : Nat} {t : TypeId} {a : Option Addr} {xs : List Value} (h : w.ownsRow base t 1 (.slice a m c) n xs) : Bk w a t := fun ad e => by
  subst e
  rcases h.2 with ⟨hv, -⟩ | ⟨g, cap, cur, hv, hb, hg, -⟩
  · cases hv
  · simp only [Value.slice.injEq, Option.some.injEq] at hv
    obtain ⟨rfl, -⟩ := hv
    exact ⟨cur, hg⟩
/-- properties by a table of values, and others by a table of properties -/
def GS (tab : List (Nat × Value)) (ps : List (Nat × (Value → World → Prop))) (d : Nat) (v : Value) (w : World) : Prop := match tab.lookup d with | some x => v = x | none => match ps.lookup d with | some P => P v w | none => True
theorem lookup_mem {α : Type} : ∀ (l : List (Nat × α)) (d : Nat) (x : α), l.lookup d = some x → (d, x) ∈ l := by
  intro l
  induction l with
  | nil => intro d x h; cases h
  | cons q r ih =>
    intro d x h
    obtain ⟨k, y⟩ := q
    rw [List.lookup_cons] at h
    by_cases e : (d == k) = true
    · rw [e] at h
      have : d = k := by simpa using e
      subst this
      simp only [Option.some.injEq] at h
      subst h
      exact List.mem_cons_self ..
    · have e' : (d == k) = false := by simpa using e
      rw [e'] at h
      exact List.mem_cons_of_mem _ (ih d x h)
theorem gs_keep {tab : List (Nat × Value)} {ps : List (Nat × (Value → World → Prop))} {Rel : World → World → Prop} (h : ∀ q ∈ ps, ∀ v y z, q.2 v y → Rel y z → q.2 v z) : ∀ d v y z, GS tab ps d v y → Rel y z → GS tab ps d v z := by
  intro d v y z hg hr
  unfold GS at hg ⊢
  cases hl : tab.lookup d with
  | some x => rw [hl] at hg; exact hg
  | none =>
    rw [hl] at hg
    cases hp : ps.lookup d with
    | some P => rw [hp] at hg; exact h _ (lookup_mem ps d P hp) v y z hg hr
    | none => trivial
theorem op_copyZ {o : Oper} {a : Act} {K : Act → World → Prop} {Q : Exit → Act → World → Prop} (W : World) (p : Nat) (s x : Operand)
    (ho : o.op = .call { callee := .builtin .append, args := #[s, x], argTypes := #[27, 27] }) (hs : a.eval s = .slice (some ⟨p, 0, none⟩) 0 0)
    (hp : W.heap[p]? = some (.cells #[] 2 (0, 0))) (ao : Option Addr) (m c : Nat) (zs : List Int) (hx : a.eval x = .slice ao m c) (hR : RdZ W ao m c zs) (hm : m * 8 ≤ 140737488351232)
    (h : ∀ a' c' w', RdZ w' a' m c' zs → Bk w' a' 2 → Below W.heap.size W w' → K (a.put o.dst (.slice a' m c')) w') : o.wp Tryz.prog a W K Q := by
  obtain ⟨i0, hi, hz0, hz1, hz2⟩ := info_parts Tryz.infoI64
  have hown : W.ownsRow p 2 1 (.slice (some ⟨p, 0, none⟩) 0 0) 0 [] := ⟨by simp, .inr ⟨p, 0, #[], rfl, Nat.le_refl _, hp, Nat.le_refl _, Nat.zero_le _, rfl, rfl⟩⟩
  have hlen : zs.length = m := hR.eqlen
  cases ao with
  | none =>
    have hc0 := hR.isnil rfl
    have hl := hR.lecap
    obtain rfl : c = 0 := hc0
    obtain rfl : m = 0 := by omega
    have hz : zs = [] := List.length_eq_zero_iff.1 hlen
    subst hz
    have hrun := run_append_owned_none (P := Tryz.prog) (w := W) p 27 o.type 2 i0 1 Tryz.underlying27 hi _ 0 [] hown
    unfold Oper.wp
    simp [execOp, ho, resolve, invoke, builtin, hs, hx, hrun, Result.andThen]
    obtain ⟨ro, cr, hv, hR'⟩ := rdz_of_owns (zs := []) (by simpa using hown)
    simp only [Value.slice.injEq] at hv
    obtain ⟨rfl, -, rfl⟩ := hv
    exact h _ _ _ hR' (bk_of_owns hown) (Below.refl _ _)
  | some ad =>
    have hnews : ∀ j u, (cellsZ zs)[j]? = some u → W.cell? (ad.add j) = some u := by
      intro j u hj
      rw [List.getElem?_map] at hj
      by_cases hjl : j < zs.length
      · rw [List.getElem?_eq_getElem hjl] at hj
        simp only [Option.map_some, Option.some.injEq] at hj
        subst hj
        obtain ⟨b, off, e, h1⟩ := hR.cell j (by omega)
        simp only [Option.some.injEq] at e
        subst e
        rw [List.getD_eq_getElem?_getD, List.getElem?_eq_getElem hjl] at h1
        rw [Go.WideShapes.add_plain]
        exact h1
      · rw [List.getElem?_eq_none (by omega)] at hj
        simp at hj
    have hz1' : i0.size = 1 := hz1
    have hcl : (cellsZ zs).length = m * i0.size := by rw [hz1']; simp [cellsZ, hlen]
    by_cases h0 : m = 0
    · subst h0
      have hz : zs = [] := List.length_eq_zero_iff.1 hlen
      subst hz
      have hrun := run_append_room (P := Tryz.prog) W 27 o.type 2 i0 Tryz.underlying27 hi p 0 0 #[] hp ad 0 c (cellsZ []) hcl hnews (ints_oneCell _ _) (by omega) (by simp [cellsZ])
      rw [show (List.take (0 * i0.size) (#[] : Array Value).toList ++ cellsZ [] ++ List.drop (0 * i0.size + (cellsZ []).length) (#[] : Array Value).toList).toArray = #[] by simp [cellsZ], setRow_same hp] at hrun
      unfold Oper.wp
      simp [execOp, ho, resolve, invoke, builtin, hs, hx, hrun, Result.andThen]
      obtain ⟨ro, cr, hv, hR'⟩ := rdz_of_owns (zs := []) (by simpa using hown)
      simp only [Value.slice.injEq] at hv
      obtain ⟨rfl, -, rfl⟩ := hv
      exact h _ _ _ hR' (bk_of_owns hown) (Below.refl _ _)
    · have hrun := run_append_grow (P := Tryz.prog) W 27 o.type 2 i0 (.int .i64 0) Tryz.underlying27 hi hz0 ⟨p, 0, none⟩ 0 0 [] (by simp) (by intro j v hj; simp at hj) ad m c (cellsZ zs) hcl hnews (by omega) (by omega) (growslice_fits (by omega) (by rw [hz2]; omega))
      obtain ⟨v', w', h1, h2, h3, -⟩ := run_append_own (P := Tryz.prog) W p 27 o.type 2 i0 (.int .i64 0) 1 8 Tryz.underlying27 hi hz0 hz1 hz2 rfl (by decide) _ 0 [] hown ad m c (cellsZ zs) (by simp [hlen]) hnews (ints_oneCell _ _) (by unfold maxLen; omega) (by omega) (Nat.le_of_lt (Array.getElem?_eq_some_iff.1 hp).1)
      have hB : Below W.heap.size W w' := by
        rw [h1] at hrun
        simp only [Result.ok.injEq] at hrun
        obtain ⟨-, rfl⟩ := hrun
        exact ((Below.refl _ _).drew).alloc (Nat.le_refl _) _
      rw [List.nil_append, Nat.zero_add] at h2
      obtain ⟨ro, cr, rfl, hR'⟩ := rdz_of_owns h2
      unfold Oper.wp
      simp [execOp, ho, resolve, invoke, builtin, hs, hx, h1, Result.andThen]
      exact h _ _ _ hR' (bk_of_owns h2) hB
theorem op_copyS {o : Oper} {a : Act} {K : Act → World → Prop} {Q : Exit → Act → World → Prop} (W : World) (p : Nat) (s x : Operand)
    (ho : o.op = .call { callee := .builtin .append, args := #[s, x], argTypes := #[26, 26] }) (hs : a.eval s = .slice (some ⟨p, 0, none⟩) 0 0)
    (hp : W.heap[p]? = some (.cells #[] 9 (0, 0))) (ao : Option Addr) (m c : Nat) (ss : List ByteArray) (hx : a.eval x = .slice ao m c) (hR : RdS W ao m c ss) (hm : m * 16 ≤ 140737488351232)
    (h : ∀ a' c' w', RdS w' a' m c' ss → Bk w' a' 9 → Below W.heap.size W w' → K (a.put o.dst (.slice a' m c')) w') : o.wp Tryz.prog a W K Q := by
  obtain ⟨i0, hi, hz0, hz1, hz2⟩ := info_parts Tryz.infoStr
  have hown : W.ownsRow p 9 1 (.slice (some ⟨p, 0, none⟩) 0 0) 0 [] := ⟨by simp, .inr ⟨p, 0, #[], rfl, Nat.le_refl _, hp, Nat.le_refl _, Nat.zero_le _, rfl, rfl⟩⟩
  have hlen : ss.length = m := hR.eqlen
  cases ao with
  | none =>
    have hc0 := hR.isnil rfl
    have hl := hR.lecap
    obtain rfl : c = 0 := hc0
    obtain rfl : m = 0 := by omega
    have hz : ss = [] := List.length_eq_zero_iff.1 hlen
    subst hz
    have hrun := run_append_owned_none (P := Tryz.prog) (w := W) p 26 o.type 9 i0 1 Tryz.underlying26 hi _ 0 [] hown
    unfold Oper.wp
    simp [execOp, ho, resolve, invoke, builtin, hs, hx, hrun, Result.andThen]
    obtain ⟨ro, cr, hv, hR'⟩ := rds_of_owns (ss := []) (by simpa using hown)
    simp only [Value.slice.injEq] at hv
    obtain ⟨rfl, -, rfl⟩ := hv
    exact h _ _ _ hR' (bk_of_owns hown) (Below.refl _ _)
  | some ad =>
    have hnews : ∀ j u, (cellsS ss)[j]? = some u → W.cell? (ad.add j) = some u := by
      intro j u hj
      rw [List.getElem?_map] at hj
      by_cases hjl : j < ss.length
      · rw [List.getElem?_eq_getElem hjl] at hj
        simp only [Option.map_some, Option.some.injEq] at hj
        subst hj
        obtain ⟨b, off, e, h1⟩ := hR.cell j (by omega)
        simp only [Option.some.injEq] at e
        subst e
        rw [List.getD_eq_getElem?_getD, List.getElem?_eq_getElem hjl] at h1
        rw [Go.WideShapes.add_plain]
        exact h1
      · rw [List.getElem?_eq_none (by omega)] at hj
        simp at hj
    have hz1' : i0.size = 1 := hz1
    have hcl : (cellsS ss).length = m * i0.size := by rw [hz1']; simp [cellsS, hlen]
    by_cases h0 : m = 0
    · subst h0
      have hz : ss = [] := List.length_eq_zero_iff.1 hlen
      subst hz
      have hrun := run_append_room (P := Tryz.prog) W 26 o.type 9 i0 Tryz.underlying26 hi p 0 0 #[] hp ad 0 c (cellsS []) hcl hnews (strs_oneCell _) (by omega) (by simp [cellsS])
      rw [show (List.take (0 * i0.size) (#[] : Array Value).toList ++ cellsS [] ++ List.drop (0 * i0.size + (cellsS []).length) (#[] : Array Value).toList).toArray = #[] by simp [cellsS], setRow_same hp] at hrun
      unfold Oper.wp
      simp [execOp, ho, resolve, invoke, builtin, hs, hx, hrun, Result.andThen]
      obtain ⟨ro, cr, hv, hR'⟩ := rds_of_owns (ss := []) (by simpa using hown)
      simp only [Value.slice.injEq] at hv
      obtain ⟨rfl, -, rfl⟩ := hv
      exact h _ _ _ hR' (bk_of_owns hown) (Below.refl _ _)
    · have hrun := run_append_grow (P := Tryz.prog) W 26 o.type 9 i0 (.string emp) Tryz.underlying26 hi hz0 ⟨p, 0, none⟩ 0 0 [] (by simp) (by intro j v hj; simp at hj) ad m c (cellsS ss) hcl hnews (by omega) (by omega) (growslice_fits (by omega) (by rw [hz2]; omega))
      obtain ⟨v', w', h1, h2, h3, -⟩ := run_append_own (P := Tryz.prog) W p 26 o.type 9 i0 (.string emp) 1 16 Tryz.underlying26 hi hz0 hz1 hz2 rfl (by decide) _ 0 [] hown ad m c (cellsS ss) (by simp [hlen]) hnews (strs_oneCell _) (by unfold maxLen; omega) (by omega) (Nat.le_of_lt (Array.getElem?_eq_some_iff.1 hp).1)
      have hB : Below W.heap.size W w' := by
        rw [h1] at hrun
        simp only [Result.ok.injEq] at hrun
        obtain ⟨-, rfl⟩ := hrun
        exact ((Below.refl _ _).drew).alloc (Nat.le_refl _) _
      rw [List.nil_append, Nat.zero_add] at h2
      obtain ⟨ro, cr, rfl, hR'⟩ := rds_of_owns h2
      unfold Oper.wp
      simp [execOp, ho, resolve, invoke, builtin, hs, hx, h1, Result.andThen]
      exact h _ _ _ hR' (bk_of_owns h2) hB
end Go.Proofs.YtiapkblebbcfbaaGreat.Gl
/- An append of one element onto a row that nobody else has, told exactly: for drawn statements. -/
namespace Go.Proofs.YtiapkblebbcfbaaGreat.Gl
open Go Go.RowKit
set_option linter.unusedVariables false
set_option linter.unusedSimpArgs false

/-- what an append of one element onto the row of v leaves: of no element type -/
theorem run_push_exact {P : Program} (W : World) (base : Nat) (t ty e : TypeId) (i : TypeInfo) (z : Value) (bytes : Nat) (ht : P.underlying t = some (.slice e)) (hi : P.info? e = some i) (hz : i.zero = some z)
    (hsize : i.size = 1) (hby : i.bytes = bytes) (hzs : z.cells.size = 1) (co : Option Addr) (k dk : Nat) (xs : List Value) (hown : W.ownsRow base e 1 (.slice co k dk) k xs) (g : Nat) (u : Value) (hcell : W.cell? ⟨g, 0, none⟩ = some u) (h1 : u.oneCell' = true)
    (hbase : base ≤ W.heap.size) (hk : (k + 1) * bytes ≤ 140737488355328) (hk' : k + 1 ≤ 1000000000) :
    ∃ a' c' w', (Builtin.append_ #[t, t] ty #[.slice co k dk, .slice (some ⟨g, 0, none⟩) 1 1]).run P W = .ok (.slice a' (k + 1) c') w' ∧ w'.ownsRow base e 1 (.slice a' (k + 1) c') (k + 1) (xs ++ [u]) ∧ Below base W w' ∧
      (∀ b, b < W.heap.size → (∀ ad, co = some ad → ad.block ≠ b) → w'.heap[b]? = W.heap[b]?) ∧ (∀ v n ys, W.ownsRow base e 1 v n ys → ys <+: xs ++ [u] → w'.ownsRow base e 1 v n ys) := by
  have hnews : ∀ j u', [u][j]? = some u' → W.cell? ((⟨g, 0, none⟩ : Addr).add j) = some u' := by
    intro j u' hj
    match j, hj with
    | 0, hj => simp at hj; subst hj; simpa [Addr.add] using hcell
  have h1' : ∀ x ∈ [u], x.oneCell' = true := fun x hx => by rw [List.mem_singleton] at hx; subst hx; exact h1
  obtain ⟨v', w', hr, h2, h3, h4⟩ := run_append_own (P := P) W base t ty e i z 1 bytes ht hi hz hsize hby hzs (by decide) _ k xs hown ⟨g, 0, none⟩ 1 1 [u] rfl hnews h1' (by unfold maxLen; omega) hk hbase
  have hlow : Below base W w' := (Below.refl base W).grown h3 hbase fun q hq => (hown.lt q hq).1
  obtain ⟨a', c', rfl⟩ : ∃ a' c', v' = .slice a' (k + 1) c' := by
    rcases h2.2 with ⟨rfl, h0⟩ | ⟨g', cap, cur, rfl, -⟩
    · omega
    · exact ⟨_, _, rfl⟩
  refine ⟨a', c', w', hr, h2, hlow, fun b hb hne => h3.block b hb fun hbe => ?_, ?_⟩
  · cases co with
    | none => simp [Value.ownBlock] at hbe
    | some ad =>
      simp only [Value.ownBlock, Option.some.injEq] at hbe
      exact hne ad rfl hbe.symm
  -- grown anew: all that was stays
  have anew : ∀ cs c, w' = W.drew.alloc (.cells cs c) → ∀ v n ys, W.ownsRow base e 1 v n ys → ys <+: xs ++ [u] → w'.ownsRow base e 1 v n ys := by
    rintro cs c rfl v n ys ho -
    exact ho.drew.alloc _
  rcases hown.2 with ⟨hv, h0⟩ | ⟨g0, cap, cur, hv, hbg, hg, hnc, hcm, hcs, htake⟩
  · obtain ⟨rfl, rfl, rfl⟩ : co = none ∧ k = 0 ∧ dk = 0 := by simpa using hv
    have hr2 := run_append_nil (P := P) W t ty e i z ht hi hz ⟨g, 0, none⟩ 1 1 [u] (by rw [hsize]; rfl) hnews (by decide) (by decide) (by rw [hby]; omega)
    rw [hr] at hr2
    simp only [Result.ok.injEq] at hr2
    exact anew _ _ hr2.2
  · obtain ⟨rfl, hkk, rfl⟩ : co = some ⟨g0, 0, none⟩ ∧ k = k ∧ dk = cap := by simpa using hv
    by_cases hroom : k + 1 ≤ dk
    · have hfit : k * i.size + [u].length ≤ cur.size := by rw [hsize, hcs]; simp; omega
      have hr2 := run_append_room (P := P) W t ty e i ht hi g0 k dk cur hg ⟨g, 0, none⟩ 1 1 [u] (by rw [hsize]; rfl) hnews h1' hroom hfit
      rw [hr] at hr2
      simp only [Result.ok.injEq] at hr2
      obtain ⟨-, rfl⟩ := hr2
      rintro v n ys ho ⟨zs, hzs'⟩
      refine ⟨ho.1, ?_⟩
      rcases ho.2 with hn | ⟨g9, cap9, cur9, hv9, hb9, hg9, hn9, hm9, hs9, ht9⟩
      · exact .inl hn
      · by_cases hgg : g9 = g0
        · subst hgg
          rw [hg9] at hg
          simp only [Option.some.injEq, Obj.cells.injEq] at hg
          obtain ⟨rfl, -⟩ := hg
          refine .inr ⟨g9, cap9, _, hv9, hb9, setRow_heap W g9 cur9 _ e _ hg9, hn9, hm9, ?_, ?_⟩
          · rw [hsize] at hfit
            simp only [List.size_toArray, List.length_append, List.length_take, List.length_drop, Array.length_toList, hsize]
            simp at hfit
            simp
            omega
          · simp only [hsize, Nat.mul_one] at htake ⊢
            rw [htake, ← hzs']
            simp only [Nat.mul_one] at ht9
            have hl : ys.length = n := by simpa using ho.1
            rw [List.append_assoc]
            rw [← hl]
            exact List.take_left
        · exact .inr ⟨g9, cap9, cur9, hv9, hb9, (setRow_other W g0 g9 _ hgg).trans hg9, hn9, hm9, hs9, ht9⟩
    · have holds : ∀ j u', xs[j]? = some u' → W.cell? ((⟨g0, 0, none⟩ : Addr).add j) = some u' := hown.cells (g := g0) rfl
      have hr2 := run_append_grow (P := P) W t ty e i z ht hi hz ⟨g0, 0, none⟩ k dk xs (by rw [hsize]; exact hown.1) holds ⟨g, 0, none⟩ 1 1 [u] (by rw [hsize]; rfl) hnews (by omega) (by omega) (growslice_fits (by omega) (by rw [hby]; exact hk))
      rw [hr] at hr2
      simp only [Result.ok.injEq] at hr2
      exact anew _ _ hr2.2
theorem op_pushE {o : Oper} {a : Act} {K : Act → World → Prop} {Q : Exit → Act → World → Prop} (Wc : World) (base : Nat) (s x : Operand)
    (ho : o.op = .call { callee := .builtin .append, args := #[s, x], argTypes := #[27, 27] }) (co : Option Addr) (k dk : Nat) (O : List Int) (hs : a.eval s = .slice co k dk) (g : Nat) (d : Int) (hx : a.eval x = .slice (some ⟨g, 0, none⟩) 1 1)
    (hown : Wc.ownsRow base 2 1 (.slice co k dk) k (cellsZ O)) (hcell : Wc.cell? ⟨g, 0, none⟩ = some (.int .i64 d)) (hbase : base ≤ Wc.heap.size) (hk : k + 1 ≤ 1000000000)
    (h : ∀ a' c' w', w'.ownsRow base 2 1 (.slice a' (k + 1) c') (k + 1) (cellsZ (O ++ [d])) → Below base Wc w' → (∀ b, b < Wc.heap.size → (∀ ad, co = some ad → ad.block ≠ b) → w'.heap[b]? = Wc.heap[b]?) → (∀ v n ys, Wc.ownsRow base 2 1 v n ys → ys <+: cellsZ (O ++ [d]) → w'.ownsRow base 2 1 v n ys) → K (a.put o.dst (.slice a' (k + 1) c')) w') : o.wp Tryz.prog a Wc K Q := by
  obtain ⟨i0, hi, hz0, hz1, hz2⟩ := info_parts Tryz.infoI64
  obtain ⟨a', c', w', hr, h1, h2, h3, h4⟩ := run_push_exact (P := Tryz.prog) Wc base 27 o.type 2 i0 (.int .i64 0) 8 Tryz.underlying27 hi hz0 hz1 hz2 rfl co k dk (cellsZ O) hown g (.int .i64 d) hcell rfl hbase (by omega) hk
  have e : cellsZ O ++ [.int .i64 d] = cellsZ (O ++ [d]) := by simp [cellsZ]
  rw [e] at h1 h4
  unfold Oper.wp execOp
  simp only [ho, resolve, invoke, builtin, Sem.run_bind, Sem.run_pure, Result.andThen_ok, List.map_toArray, List.map_cons, List.map_nil, hs, hx, hr]
  exact h a' c' w' h1 h2 h3 h4
end Go.Proofs.YtiapkblebbcfbaaGreat.Gl
