/- Words of a text: places, texts cut at a fault, texts joined: plain mathematics. -/
import Derived.Test.YthimmohbedaimaaDoorLxC
namespace Go.Proofs.YthimmohbedaimaaDoor.Gl
set_option linter.unusedVariables false

/-- from p on whole characters lead to e -/
inductive Bd (s : ByteArray) : Nat → Nat → Prop
  | nil (p) : Bd s p p
  | cons {p e} : p < s.size → Bd s (p + (rdS s p).2.1) e → Bd s p e
theorem Bd.trans {s : ByteArray} {p q e : Nat} (h : Bd s p q) (k : Bd s q e) : Bd s p e := by
  induction h with
  | nil => exact k
  | cons a _ ih => exact .cons a (ih k)
theorem Bd.le {s : ByteArray} {p e : Nat} (h : Bd s p e) : p ≤ e := by
  induction h with
  | nil => exact Nat.le_refl _
  | cons _ _ ih => omega
theorem Bd.le_size {s : ByteArray} {p e : Nat} (h : Bd s p e) (hp : p ≤ s.size) : e ≤ s.size := by
  induction h with
  | nil => exact hp
  | cons a _ ih => exact ih (rd_bd s _ a).2.1
theorem Bd.step {s : ByteArray} {p e : Nat} (h : Bd s p e) (hp : p < e) : p + (rdS s p).2.1 ≤ e := by
  cases h with
  | nil => omega
  | cons _ k => exact k.le
theorem RunTo.bd {P : Nat → Bool} {s : ByteArray} {p q : Nat} (h : RunTo P s p q) : Bd s p q := by
  induction h with
  | nil => exact .nil _
  | cons a _ _ _ ih => exact .cons a ih
theorem bd_pos {s : ByteArray} : ∀ (k : Nat), (∀ j, j < k → pos s j < s.size) → Bd s 0 (pos s k)
  | 0, _ => .nil 0
  | k + 1, h => (bd_pos k (fun j hj => h j (by omega))).trans (.cons (h k (by omega)) (by rw [← pos_succ]; exact .nil _))
theorem pos_bd {s : ByteArray} {p e : Nat} (h : Bd s p e) : ∀ k, pos s k = p → (∀ j, j < k → pos s j < s.size) → ∃ m, pos s m = e ∧ ∀ j, j < m → pos s j < s.size := by
  induction h with
  | nil => intro k h1 h2; exact ⟨k, h1, h2⟩
  | cons a _ ih =>
    intro k h1 h2
    refine ih (k + 1) (by rw [pos_succ, h1]) (fun j hj => ?_)
    rcases Nat.lt_succ_iff_lt_or_eq.1 hj with hj | rfl
    · exact h2 j hj
    · rw [h1]; exact a
/-- the place of a byte at which a character begins -/
theorem bd_place {s : ByteArray} {e : Nat} (h : Bd s 0 e) : ∃ m, pos s m = e ∧ (∀ j, j < m → pos s j < s.size) ∧ IsCnt (s.extract 0 e) m := by
  obtain ⟨m, h1, h2⟩ := pos_bd h 0 rfl (fun j hj => by omega)
  exact ⟨m, h1, h2, by rw [← h1]; exact cnt_cut s m h2⟩
theorem bd_ascii {s : ByteArray} : ∀ (n p : Nat), p + n ≤ s.size → (∀ j, j < n → bt s (p + j) < 128) → Bd s p (p + n)
  | 0, p, _, _ => .nil p
  | n + 1, p, h, hb => by
    have h0 := hb 0 (by omega)
    rw [Nat.add_zero] at h0
    refine .cons (by omega) ?_
    rw [rd_one s p h0]
    have := bd_ascii (s := s) n (p + 1) (by omega) (fun j hj => by have := hb (j + 1) (by omega); rwa [show p + 1 + j = p + (j + 1) by omega])
    rw [show p + 1 + n = p + (n + 1) by omega] at this
    exact this
theorem blank_one {s : ByteArray} {p : Nat} (h : blB ((rdS s p).1 : Nat) = true) : (rdS s p).2.1 = 1 ∧ blB (bt s p : Nat) = true := by
  have hr : (rdS s p).1 < 128 := by
    have := of_decide_eq_true h
    omega
  obtain ⟨h1, h2, _⟩ := rd_ascii hr
  exact ⟨h2, by rw [h1]; exact h⟩
theorem sgn_mem {s : ByteArray} {p : Nat} (h : ¬ sgn s p = emp) : fits s p (sgn s p) = true ∧ sgn s p ∈ allSigns ∧ 0 < (sgn s p).size := by
  rcases longest_or s p allSigns emp with e | ⟨e1, e2, e3⟩
  · exact absurd e h
  · exact ⟨e1, e2, Nat.lt_of_le_of_lt (Nat.zero_le _) e3⟩
/-- what the token says -/
theorem tok_cases (s : ByteArray) (p : Nat) :
    (blB ((rdS s p).1 : Nat) = true ∧ tok s p = .blank) ∨ (blB ((rdS s p).1 : Nat) = false ∧
      (((rdS s p).2.2 = false ∧ tok s p = .bad 50) ∨ ((rdS s p).2.2 = true ∧
        ((stB ((rdS s p).1 : Nat) = true ∧ ((rsB (s.extract p (run reN s p)) = true ∧ tok s p = .word 2 (s.extract p (run reN s p)) 0 (run reN s p)) ∨ (rsB (s.extract p (run reN s p)) = false ∧ 16 < cnt (s.extract p (run reN s p)) ∧ tok s p = .bad 6) ∨
          (rsB (s.extract p (run reN s p)) = false ∧ ¬ 16 < cnt (s.extract p (run reN s p)) ∧ tok s p = .word 0 (s.extract p (run reN s p)) 0 (run reN s p)))) ∨
         (stB ((rdS s p).1 : Nat) = false ∧ isDig (rdS s p).1 = true ∧ ((9223372036854775807 < valF s p (run isDig s p - p) ∧ tok s p = .bad 52) ∨ (¬ 9223372036854775807 < valF s p (run isDig s p - p) ∧ tok s p = .word 1 emp (valF s p (run isDig s p - p)) (run isDig s p)))) ∨
         (stB ((rdS s p).1 : Nat) = false ∧ isDig (rdS s p).1 = false ∧ plB ((rdS s p).1 : Nat) ≠ emp ∧ tok s p = .word 2 (plB ((rdS s p).1 : Nat)) 0 (p + (rdS s p).2.1)) ∨
         (stB ((rdS s p).1 : Nat) = false ∧ isDig (rdS s p).1 = false ∧ plB ((rdS s p).1 : Nat) = emp ∧ ((sgn s p = emp ∧ tok s p = .bad 51) ∨ (¬ sgn s p = emp ∧ tok s p = .word 2 (sgn s p) 0 (p + (sgn s p).size)))))))) := by
  have e : tok s p = tok s p := rfl
  conv at e => rhs; unfold tok
  cases h1 : blB ((rdS s p).1 : Nat) with
  | true => rw [h1, if_pos rfl] at e; exact .inl ⟨rfl, e⟩
  | false =>
    rw [h1, if_neg (by decide)] at e
    refine .inr ⟨rfl, ?_⟩
    cases h2 : (rdS s p).2.2 with
    | false => rw [h2, if_pos rfl] at e; exact .inl ⟨rfl, e⟩
    | true =>
      rw [h2, if_neg (by decide)] at e
      refine .inr ⟨rfl, ?_⟩
      cases h3 : stB ((rdS s p).1 : Nat) with
      | true =>
        rw [h3, if_pos rfl] at e
        refine .inl ⟨rfl, ?_⟩
        cases h4 : rsB (s.extract p (run reN s p)) with
        | true => rw [h4, if_pos rfl] at e; exact .inl ⟨rfl, e⟩
        | false =>
          rw [h4, if_neg (by decide)] at e
          by_cases h5 : 16 < cnt (s.extract p (run reN s p))
          · rw [if_pos h5] at e; exact .inr (.inl ⟨rfl, h5, e⟩)
          · rw [if_neg h5] at e; exact .inr (.inr ⟨rfl, h5, e⟩)
      | false =>
        rw [h3, if_neg (by decide)] at e
        cases h6 : isDig (rdS s p).1 with
        | true =>
          rw [h6, if_pos rfl] at e
          refine .inr (.inl ⟨rfl, rfl, ?_⟩)
          by_cases h7 : 9223372036854775807 < valF s p (run isDig s p - p)
          · rw [if_pos h7] at e; exact .inl ⟨h7, e⟩
          · rw [if_neg h7] at e; exact .inr ⟨h7, e⟩
        | false =>
          rw [h6, if_neg (by decide)] at e
          by_cases h8 : plB ((rdS s p).1 : Nat) = emp
          · rw [if_neg (fun h => h h8)] at e
            refine .inr (.inr (.inr ⟨rfl, rfl, h8, ?_⟩))
            by_cases h9 : sgn s p = emp
            · rw [if_pos h9] at e; exact .inl ⟨h9, e⟩
            · rw [if_neg h9] at e; exact .inr ⟨h9, e⟩
          · rw [if_pos h8] at e
            exact .inr (.inr (.inl ⟨rfl, rfl, h8, e⟩))
/-- a word is made of whole characters, the first of which is no blank -/
theorem tok_bd {s : ByteArray} {p k v q : Nat} {t : ByteArray} (hp : p < s.size) (h : tok s p = .word k t v q) : Bd s p q ∧ blB ((rdS s p).1 : Nat) = false := by
  rcases tok_cases s p with ⟨_, e⟩ | ⟨hbl, ⟨_, e⟩ | ⟨_, ⟨_, ⟨_, e⟩ | ⟨_, _, e⟩ | ⟨_, _, e⟩⟩ | ⟨_, _, ⟨_, e⟩ | ⟨_, e⟩⟩ | ⟨_, _, _, e⟩ | ⟨_, _, _, ⟨_, e⟩ | ⟨hne, e⟩⟩⟩⟩
  all_goals rw [h] at e
  all_goals cases e
  all_goals refine ⟨?_, hbl⟩
  · exact (run_run reN s p).bd
  · exact (run_run reN s p).bd
  · exact (run_run isDig s p).bd
  · exact .cons hp (.nil _)
  · obtain ⟨h1, h2, _⟩ := sgn_mem hne
    have h3 := (fits_iff s p _).1 h1
    exact bd_ascii _ p h3.1 (fun j hj => by rw [h3.2 j hj]; exact (signs_plain _ h2 j hj).2)
theorem blank_bd {s : ByteArray} {p : Nat} (hp : p < s.size) (h : tok s p = .blank) : Bd s p (p + 1) ∧ blB ((rdS s p).1 : Nat) = true := by
  have hbl : blB ((rdS s p).1 : Nat) = true := by
    rcases tok_cases s p with ⟨hbl, _⟩ | ⟨hbl, ⟨_, e⟩ | ⟨_, ⟨_, ⟨_, e⟩ | ⟨_, _, e⟩ | ⟨_, _, e⟩⟩ | ⟨_, _, ⟨_, e⟩ | ⟨_, e⟩⟩ | ⟨_, _, _, e⟩ | ⟨_, _, _, ⟨_, e⟩ | ⟨hne, e⟩⟩⟩⟩
    · exact hbl
    all_goals rw [h] at e
    all_goals cases e
  refine ⟨.cons hp ?_, hbl⟩
  rw [(blank_one hbl).1]
  exact .nil _
/-- a fault's place: a character begins there -/
theorem Lx.bd {s : ByteArray} {p : Nat} {ws : List Wd} {f : Option (Nat × Nat)} (h : Lx s p ws f) : (∀ w ∈ ws, Bd s p w.byte ∧ w.byte < s.size ∧ blB ((rdS s w.byte).1 : Nat) = false) ∧ ∀ c e, f = some (c, e) → Bd s p e ∧ e < s.size := by
  induction h with
  | done => exact ⟨fun w hw => (by cases hw), fun c e he => (by cases he)⟩
  | blank a b _ ih =>
    obtain ⟨h1, _⟩ := blank_bd a b
    exact ⟨fun w hw => ⟨h1.trans (ih.1 w hw).1, (ih.1 w hw).2⟩, fun c e he => ⟨h1.trans (ih.2 c e he).1, (ih.2 c e he).2⟩⟩
  | bad a b =>
    refine ⟨fun w hw => (by cases hw), fun c e he => ?_⟩
    cases he
    exact ⟨.nil _, a⟩
  | word a b _ ih =>
    obtain ⟨h1, h2⟩ := tok_bd a b
    refine ⟨fun w hw => ?_, fun c e he => ⟨h1.trans (ih.2 c e he).1, (ih.2 c e he).2⟩⟩
    rcases List.mem_cons.1 hw with rfl | hw
    · exact ⟨.nil _, a, h2⟩
    · exact ⟨h1.trans (ih.1 w hw).1, (ih.1 w hw).2⟩
/-- the words stand in order -/
theorem Lx.rise {s : ByteArray} {p : Nat} {ws : List Wd} {f : Option (Nat × Nat)} (h : Lx s p ws f) : (∀ w ∈ ws, p ≤ w.byte) ∧ ws.Pairwise (fun a b => a.byte < b.byte) := by
  induction h with
  | done => exact ⟨fun w hw => (by cases hw), .nil⟩
  | blank a b _ ih => exact ⟨fun w hw => by have := ih.1 w hw; omega, ih.2⟩
  | bad => exact ⟨fun w hw => (by cases hw), .nil⟩
  | word a b _ ih =>
    have hq := tok_to a b
    refine ⟨fun w hw => ?_, List.pairwise_cons.2 ⟨fun w hw => ?_, ih.2⟩⟩
    · rcases List.mem_cons.1 hw with rfl | hw
      · exact Nat.le_refl _
      · have := ih.1 w hw; omega
    · have := ih.1 w hw
      dsimp only
      omega
/-- ahead of the first word stand blanks -/
theorem Lx.ahead {s : ByteArray} {p : Nat} {ws : List Wd} {f : Option (Nat × Nat)} (h : Lx s p ws f) (hf : f = none) : ∀ i, p ≤ i → i < s.size → (∀ w ∈ ws, i < w.byte) → blB (bt s i : Nat) = true := by
  induction h with
  | done hd => intro i h1 h2 _; omega
  | blank a b _ ih =>
    intro i h1 h2 h3
    rcases Nat.lt_or_eq_of_le h1 with hlt | rfl
    · exact ih hf i hlt h2 h3
    · exact (blank_one (blank_bd a b).2).2
  | bad => cases hf
  | word a b _ ih =>
    intro i h1 h2 h3
    have h4 : i < _ := h3 _ (List.mem_cons_self ..)
    dsimp only at h4
    omega
end Go.Proofs.YthimmohbedaimaaDoor.Gl
