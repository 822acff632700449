/- Words: where the loop stands; the append of a word. -/
import Derived.Test.YthimmohbedaimaaDoorLyE
import Derived.WalkSmall
import Derived.Laws.AppendOwnNone
namespace Go.Proofs.YthimmohbedaimaaDoor.Gl
open Go.RowKit
set_option linter.unusedVariables false

abbrev anyC : Nat → Bool := fun _ => true
theorem RunTo.anyc {P : Nat → Bool} {s : ByteArray} {p q : Nat} (h : RunTo P s p q) : RunTo anyC s p q := by
  induction h with
  | nil => exact .nil _
  | cons a b c _ ih => exact .cons a b rfl ih
theorem any_ascii {s : ByteArray} : ∀ (n p : Nat), p + n ≤ s.size → (∀ j, j < n → bt s (p + j) < 128) → RunTo anyC s p (p + n)
  | 0, p, _, _ => .nil p
  | n + 1, p, h, hb => by
    have h0 := hb 0 (by omega)
    rw [Nat.add_zero] at h0
    have e := rd_one s p h0
    refine .cons (by omega) (by rw [e]) rfl ?_
    rw [e]
    have := any_ascii (s := s) n (p + 1) (by omega) (fun j hj => by have := hb (j + 1) (by omega); rwa [show p + 1 + j = p + (j + 1) by omega])
    rwa [show p + 1 + n = p + (n + 1) by omega] at this
theorem tok_any {s : ByteArray} {p k v q : Nat} {t : ByteArray} (hp : p < s.size) (h : tok s p = .word k t v q) : RunTo anyC s p q := by
  rcases tok_cases s p with ⟨_, e⟩ | ⟨hbl, ⟨_, e⟩ | ⟨hok, ⟨_, ⟨_, e⟩ | ⟨_, _, e⟩ | ⟨_, _, e⟩⟩ | ⟨_, _, ⟨_, e⟩ | ⟨_, e⟩⟩ | ⟨_, _, _, e⟩ | ⟨_, _, _, ⟨_, e⟩ | ⟨hne, e⟩⟩⟩⟩
  all_goals rw [h] at e
  all_goals cases e
  · exact (run_run reN s p).anyc
  · exact (run_run reN s p).anyc
  · exact (run_run isDig s p).anyc
  · exact .cons hp hok rfl (.nil _)
  · obtain ⟨h1, h2, _⟩ := sgn_mem hne
    have h3 := (fits_iff s p _).1 h1
    exact any_ascii _ p h3.1 (fun j hj => by rw [h3.2 j hj]; exact (signs_plain _ h2 j hj).2)
/-- where the loop of Words stands -/
structure Stand (s : ByteArray) (a : List Wd) (f : Option (Nat × Nat)) (k p e : Nat) (A : List Wd) : Prop where
  at_ : pos s k = p
  oks : Oks s k
  rest : ∃ m B, A ++ B = a ∧ Lx s m B f ∧ RunTo anyC s p m ∧ ((p < e ∧ m = e) ∨ (e ≤ p ∧ m = p))
theorem Stand.zero {s : ByteArray} {a : List Wd} {f : Option (Nat × Nat)} (h : Lx s 0 a f) : Stand s a f 0 0 0 [] :=
  ⟨rfl, fun j hj => absurd hj (by omega), 0, a, rfl, h, .nil 0, .inr ⟨Nat.le_refl _, rfl⟩⟩
theorem Stand.le {s : ByteArray} {a : List Wd} {f : Option (Nat × Nat)} {k p e : Nat} {A : List Wd} (h : Stand s a f k p e A) : k ≤ p ∧ p ≤ s.size := by
  have := pos_ge s k h.oks.lt
  rw [h.at_] at this
  exact this
theorem Stand.cnt {s : ByteArray} {a : List Wd} {f : Option (Nat × Nat)} {k p e : Nat} {A : List Wd} (h : Stand s a f k p e A) : cnt (s.extract 0 p) = k := by
  have := cnt_cut s k h.oks.lt
  rw [h.at_] at this
  exact cnt_one (cnt_cnt _) this
theorem Stand.fin {s : ByteArray} {a : List Wd} {f : Option (Nat × Nat)} {k p e : Nat} {A : List Wd} (h : Stand s a f k p e A) (hp : ¬ p < s.size) : f = none ∧ A = a := by
  obtain ⟨m, B, hA, hL, hR, _⟩ := h.rest
  have hm := hR.le
  cases hL with
  | done _ => exact ⟨rfl, by rw [List.append_nil] at hA; exact hA⟩
  | blank a _ _ => omega
  | bad a _ => omega
  | word a _ _ => omega
theorem Stand.oks' {s : ByteArray} {k p : Nat} (h : pos s k = p) (ho : Oks s k) (hp : p < s.size) (hok : (rdS s p).2.2 = true) : pos s (k + 1) = p + (rdS s p).2.1 ∧ Oks s (k + 1) := by
  refine ⟨by rw [pos_succ, h], fun j hj => ?_⟩
  rcases Nat.lt_succ_iff_lt_or_eq.1 hj with hj | rfl
  · exact ho j hj
  · rw [h]; exact ⟨hp, hok⟩
theorem Stand.skip {s : ByteArray} {a : List Wd} {f : Option (Nat × Nat)} {k p e : Nat} {A : List Wd} (h : Stand s a f k p e A) (hp : p < s.size) (he : p < e) : Stand s a f (k + 1) (p + (rdS s p).2.1) e A := by
  obtain ⟨m, B, hA, hL, hR, hm⟩ := h.rest
  obtain rfl : m = e := by omega
  cases hR with
  | nil => omega
  | cons _ hok _ hR =>
    obtain ⟨h1, h2⟩ := Stand.oks' h.at_ h.oks hp hok
    refine ⟨h1, h2, m, B, hA, hL, hR, ?_⟩
    have := hR.le
    omega
theorem Stand.here {s : ByteArray} {a : List Wd} {f : Option (Nat × Nat)} {k p e : Nat} {A : List Wd} (h : Stand s a f k p e A) (he : e ≤ p) : ∃ B, A ++ B = a ∧ Lx s p B f := by
  obtain ⟨m, B, hA, hL, hR, hm⟩ := h.rest
  obtain rfl : m = p := by omega
  exact ⟨B, hA, hL⟩
theorem Stand.blank {s : ByteArray} {a : List Wd} {f : Option (Nat × Nat)} {k p e : Nat} {A : List Wd} (h : Stand s a f k p e A) (hp : p < s.size) (he : e ≤ p) (hb : blB ((rdS s p).1 : Nat) = true) : Stand s a f (k + 1) (p + (rdS s p).2.1) e A := by
  obtain ⟨B, hA, hL⟩ := h.here he
  have ht : tok s p = .blank := by unfold tok; rw [if_pos hb]
  have h1 := (blank_one hb).1
  have hbt := (blank_one hb).2
  have hok : (rdS s p).2.2 = true := by
    refine rd_ok s p (fun e => ?_)
    rw [e] at hb
    exact absurd hb (by decide)
  obtain ⟨h2, h3⟩ := Stand.oks' h.at_ h.oks hp hok
  refine ⟨h2, h3, p + 1, B, hA, ?_, by rw [h1]; exact .nil _, .inr ⟨by omega, by rw [h1]⟩⟩
  cases hL with
  | done _ => omega
  | blank _ _ k => exact k
  | bad _ c => rw [ht] at c; cases c
  | word _ c _ => rw [ht] at c; cases c
theorem Stand.bad {s : ByteArray} {a : List Wd} {f : Option (Nat × Nat)} {k p e c : Nat} {A : List Wd} (h : Stand s a f k p e A) (hp : p < s.size) (he : e ≤ p) (ht : tok s p = .bad c) : f = some (c, p) := by
  obtain ⟨B, hA, hL⟩ := h.here he
  cases hL with
  | done _ => omega
  | blank _ d _ => rw [ht] at d; cases d
  | bad _ d => rw [ht] at d; cases d; rfl
  | word _ d _ => rw [ht] at d; cases d
theorem Stand.word {s : ByteArray} {a : List Wd} {f : Option (Nat × Nat)} {k p e kd v q : Nat} {t : ByteArray} {A : List Wd} (h : Stand s a f k p e A) (hp : p < s.size) (he : e ≤ p) (ht : tok s p = .word kd t v q) : Stand s a f (k + 1) (p + (rdS s p).2.1) q (A ++ [⟨kd, t, v, p⟩]) := by
  obtain ⟨B, hA, hL⟩ := h.here he
  have hr := tok_any hp ht
  have hto := tok_to hp ht
  cases hL with
  | done _ => omega
  | blank _ d _ => rw [ht] at d; cases d
  | bad _ d => rw [ht] at d; cases d
  | word _ d l =>
    rw [ht] at d; cases d
    cases hr with
    | nil => omega
    | cons _ hok _ hr =>
      obtain ⟨h1, h2⟩ := Stand.oks' h.at_ h.oks hp hok
      refine ⟨h1, h2, q, _, by rw [List.append_assoc]; exact hA, l, hr, ?_⟩
      have := hr.le
      omega
theorem Stand.len {s : ByteArray} {a : List Wd} {f : Option (Nat × Nat)} {k p e : Nat} {A : List Wd} (h : Stand s a f k p e A) : A.length ≤ a.length := by
  obtain ⟨m, B, hA, _⟩ := h.rest
  rw [← hA, List.length_append]; omega
theorem Lx.len {s : ByteArray} {p : Nat} {ws : List Wd} {f : Option (Nat × Nat)} (h : Lx s p ws f) : ws.length ≤ s.size := by
  have key : ws.length + p ≤ s.size + p ∧ (p ≤ s.size → ws.length + p ≤ s.size) := by
    induction h with
    | done h => exact ⟨by simp, fun h => by simpa using h⟩
    | blank a b _ ih => exact ⟨by omega, fun _ => by omega⟩
    | bad a b => exact ⟨by simp, fun h => by simpa using h⟩
    | word a b _ ih => have := tok_to a b; rw [List.length_cons]; exact ⟨by omega, fun _ => by omega⟩
  omega
/-- a window of the text to its end -/
theorem sim_end (s : ByteArray) (p : Nat) (hp : p ≤ s.size) : Sim s p (s.extract p s.size) where
  size := by rw [size_win s p s.size (Nat.le_refl _)]; omega
  byte := fun j hj => by rw [size_win s p s.size (Nat.le_refl _)] at hj; rw [bt_win s p s.size j (Nat.le_refl _) (by omega)]
  stop := .inl (by rw [size_win s p s.size (Nat.le_refl _)]; omega)
theorem tok_end (s : ByteArray) (p : Nat) (hp : p < s.size) : tok s p = (tok (s.extract p s.size) 0).move p ∧ rdS (s.extract p s.size) 0 = rdS s p := by
  have hz := size_win s p s.size (Nat.le_refl _)
  have := tok_sim (sim_end s p (Nat.le_of_lt hp)) (p := 0) (by omega)
  have hr := rd_sim (sim_end s p (Nat.le_of_lt hp)) 0 (by omega)
  exact ⟨this, hr.symm⟩
theorem Tryd.infoWord : (Tryd.prog.info? 35).map (fun i => (i.zero, i.size, i.bytes)) = some (some (wordV 0 emp 0 0 0), 5, 48) := by kernel_rfl
theorem wp_pushW {ops : Array Oper} {rest : List Oper} {o : Oper} {a : Act} {Q : Exit → Act → World → Prop} (Wc : World) (base : Nat) (hgd : o.guard = none) (s x : Operand)
    (ho : o.op = .call { callee := .builtin .append, args := #[s, x], argTypes := #[24, 24] }) (v : Value) (n : Nat) (O : List FW) (hs : a.eval s = v) (g : Nat) (d : FW) (hx : a.eval x = .slice (some ⟨g, 0, none⟩) 1 1)
    (hown : Wc.ownsRow base 35 5 v n (O.flatMap FW.cells)) (hcell : ∀ i, i < 5 → Wc.cell? ⟨g, i, none⟩ = d.cells[i]?) (hbase : base ≤ Wc.heap.size) (hk : n ≤ 4096)
    (h : ∀ v' w', w'.ownsRow base 35 5 v' (n + 1) ((O ++ [d]).flatMap FW.cells) → Below base Wc w' → wpList Tryd.prog ops Q rest (a.put o.dst v') w') : wpList Tryd.prog ops Q (o :: rest) a Wc := by
  obtain ⟨i0, hi, hz0, hz1, hz2⟩ := info_parts Tryd.infoWord
  refine wpList_append_own _ hgd s x 24 ho base 35 i0 _ 5 48 Tryd.underlying24 hi hz0 hz1 hz2 rfl (by decide) _ n _ hs hown ⟨g, 0, none⟩ 1 1 d.cells hx rfl ?_ ?_ (by unfold maxLen; omega) (by omega) hbase ?_
  · intro j u hj
    have hj5 : j < 5 := by
      have := (List.getElem?_eq_some_iff.1 hj).1
      exact this
    have := hcell j hj5
    rw [hj] at this
    rcases Nat.eq_zero_or_pos j with rfl | hp
    · exact this
    · simpa [Addr.add, Nat.ne_of_gt hp] using this
  · intro u hu
    simp only [FW.cells, List.mem_cons, List.not_mem_nil, or_false] at hu
    rcases hu with rfl | rfl | rfl | rfl | rfl <;> rfl
  · intro v' w' h1 h2 _
    refine h v' w' (by rw [List.flatMap_append]; simpa using h1) ((Below.refl base Wc).grown h2 hbase ?_)
    intro q hq
    have := hown.lt q hq
    omega
end Go.Proofs.YthimmohbedaimaaDoor.Gl
