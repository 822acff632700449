/- Words of a text: texts put together, texts cut: plain mathematics. -/
import Derived.Test.YtabfhdmcljdjhaaGreatDoorLxB
import Derived.Test.YtabfhdmcljdjhaaGreatDoorGlE
import Derived.Laws.Cover1
namespace Go.Proofs.YtabfhdmcljdjhaaGreatDoor.Gl
set_option linter.unusedVariables false

theorem run_gt {P : Nat → Bool} {s : ByteArray} {p : Nat} (hp : p < s.size) (h1 : (rdS s p).2.2 = true) (h2 : P (rdS s p).1 = true) : p < run P s p := by
  have hr : RunTo P s p (run P s (p + (rdS s p).2.1)) := .cons hp h1 h2 (run_run P s _)
  rw [run_is hr (run_ends P s _)]
  have := (run_run P s (p + (rdS s p).2.1)).le
  have := rd_bd s p hp
  omega
theorem extract_eq {u s : ByteArray} {a b i j : Nat} (hj : j ≤ s.size) (hb : b ≤ u.size) (hl : b - a = j - i) (h : ∀ k, i + k < j → bt u (a + k) = bt s (i + k)) : u.extract a b = s.extract i j := by
  apply ByteArray.ext_getElem
  · rw [ByteArray.size_extract, ByteArray.size_extract]; omega
  · intro k hk1 hk2
    rw [ByteArray.size_extract] at hk1 hk2
    have e := h k (by omega)
    rw [bt_of u (a + k) (by omega), bt_of s (i + k) (by omega)] at e
    rw [ByteArray.getElem_extract, ByteArray.getElem_extract]
    exact UInt8.toNat_inj.1 e
theorem extract_sim {u s : ByteArray} {d : Nat} (h : Sim u d s) {p q : Nat} (hq : q ≤ s.size) : u.extract (d + p) (d + q) = s.extract p q :=
  extract_eq hq (by have := h.size; omega) (by omega) (fun k hk => by rw [Nat.add_assoc]; exact h.byte _ (by omega))
theorem tok_sim {u s : ByteArray} {d : Nat} (h : Sim u d s) {p : Nat} (hp : p < s.size) : tok u (d + p) = (tok s p).move d := by
  have e := rd_sim h p hp
  have r1 := run_sim h (P := reN) (by decide +kernel) (Nat.le_of_lt hp)
  have r2 := run_sim h (P := isDig) (by decide) (Nat.le_of_lt hp)
  have l1 := (run_run reN s p).le_size (Nat.le_of_lt hp)
  have l2 := (run_run isDig s p).le_size (Nat.le_of_lt hp)
  have g2 := (run_run isDig s p).le
  have x1 := extract_sim h (p := p) l1
  have v2 : valF u (d + p) (d + run isDig s p - (d + p)) = valF s p (run isDig s p - p) := by
    rw [show d + run isDig s p - (d + p) = run isDig s p - p by omega]
    exact valF_congr _ (fun j hj => by rw [Nat.add_assoc]; exact h.byte _ (by omega))
  have s1 := sgn_sim h (Nat.le_of_lt hp)
  unfold tok
  rw [e, r1, r2, x1, v2, s1]
  split
  · rfl
  · split
    · rfl
    · split
      · split
        · rfl
        · split <;> rfl
      · split
        · split <;> rfl
        · split
          · rw [Nat.add_assoc]; rfl
          · split
            · rfl
            · rw [Nat.add_assoc]; rfl
/-- a word: its kind, text and number, and its first byte -/
structure Wd where
  kind : Nat
  text : ByteArray
  num : Nat
  byte : Nat
def Wd.move (d : Nat) (w : Wd) : Wd := ⟨w.kind, w.text, w.num, d + w.byte⟩
/-- the words from p on, and the fault -/
inductive Lx (s : ByteArray) : Nat → List Wd → Option (Nat × Nat) → Prop
  | done {p} : s.size ≤ p → Lx s p [] none
  | blank {p ws f} : p < s.size → tok s p = .blank → Lx s (p + 1) ws f → Lx s p ws f
  | bad {p e} : p < s.size → tok s p = .bad e → Lx s p [] (some (e, p))
  | word {p k t v q ws f} : p < s.size → tok s p = .word k t v q → Lx s q ws f → Lx s p (⟨k, t, v, p⟩ :: ws) f
theorem Lx.one {s : ByteArray} {p : Nat} {ws : List Wd} {f : Option (Nat × Nat)} (h : Lx s p ws f) : ∀ {ws' f'}, Lx s p ws' f' → ws = ws' ∧ f = f' := by
  induction h with
  | done h =>
    intro ws' f' k
    cases k with
    | done _ => exact ⟨rfl, rfl⟩
    | blank a _ _ => omega
    | bad a _ => omega
    | word a _ _ => omega
  | blank a b _ ih =>
    intro ws' f' k
    cases k with
    | done _ => omega
    | blank _ _ k => exact ih k
    | bad _ c => rw [b] at c; cases c
    | word _ c _ => rw [b] at c; cases c
  | bad a b =>
    intro ws' f' k
    cases k with
    | done _ => omega
    | blank _ c _ => rw [b] at c; cases c
    | bad _ c => rw [b] at c; cases c; exact ⟨rfl, rfl⟩
    | word _ c _ => rw [b] at c; cases c
  | word a b _ ih =>
    intro ws' f' k
    cases k with
    | done _ => omega
    | blank _ c _ => rw [b] at c; cases c
    | bad _ c => rw [b] at c; cases c
    | word _ c k =>
      rw [b] at c
      cases c
      obtain ⟨rfl, rfl⟩ := ih k
      exact ⟨rfl, rfl⟩
/-- where a word ends: behind its beginning, and within the text -/
theorem tok_to {s : ByteArray} {p k v q : Nat} {t : ByteArray} (hp : p < s.size) (h : tok s p = .word k t v q) : p < q ∧ q ≤ s.size := by
  have hb := rd_bd s p hp
  unfold tok at h
  split at h
  · cases h
  · split at h
    · cases h
    · rename_i hok
      have hok' : (rdS s p).2.2 = true := by
        cases hq : (rdS s p).2.2 with
        | true => rfl
        | false => exact absurd hq hok
      split at h
      · rename_i hst
        have hre : reN (rdS s p).1 = true := reB_of hst
        have hl := (run_run reN s p).le_size (Nat.le_of_lt hp)
        have hg := run_gt hp hok' hre
        split at h
        · cases h; exact ⟨hg, hl⟩
        · split at h
          · cases h
          · cases h; exact ⟨hg, hl⟩
      · split at h
        · rename_i hd
          have hl := (run_run isDig s p).le_size (Nat.le_of_lt hp)
          have hg := run_gt hp hok' hd
          split at h
          · cases h
          · cases h; exact ⟨hg, hl⟩
        · split at h
          · cases h; omega
          · split at h
            · cases h
            · rename_i hne
              cases h
              have hf := longest_fits s p allSigns emp hne
              have h1 := (fits_iff s p _).1 hf.1
              have h2 := hf.2
              exact ⟨by unfold sgn; omega, h1.1⟩
theorem Lx.is (s : ByteArray) : ∀ n p, s.size ≤ p + n → ∃ ws f, Lx s p ws f
  | 0, p, h => ⟨[], none, .done (by omega)⟩
  | n + 1, p, h => by
    by_cases hp : p < s.size
    · cases ht : tok s p with
      | blank =>
        obtain ⟨ws, f, k⟩ := Lx.is s n (p + 1) (by omega)
        exact ⟨ws, f, .blank hp ht k⟩
      | bad e => exact ⟨_, _, .bad hp ht⟩
      | word k t v q =>
        obtain ⟨ws, f, l⟩ := Lx.is s n q (by have := tok_to hp ht; omega)
        exact ⟨_, _, .word hp ht l⟩
    · exact ⟨[], none, .done (by omega)⟩
theorem Lx.ex (s : ByteArray) : ∃ ws f, Lx s 0 ws f := Lx.is s s.size 0 (by omega)
/-- words ahead of what follows -/
theorem Lx.sim {u s : ByteArray} {d : Nat} (h : Sim u d s) {p : Nat} {a : List Wd} {f : Option (Nat × Nat)} (k : Lx s p a f) (hp : p ≤ s.size) : 
    (∀ b g, f = none → Lx u (d + s.size) b g → Lx u (d + p) (a.map (Wd.move d) ++ b) g) ∧ (∀ c e, f = some (c, e) → Lx u (d + p) (a.map (Wd.move d)) (some (c, d + e))) := by
  have hsz := h.size
  induction k with
  | done hd =>
    refine ⟨fun b g _ l => ?_, fun c e he => (by cases he)⟩
    obtain rfl : _ = s.size := Nat.le_antisymm hp hd
    exact l
  | blank a b k ih =>
    have := ih (by omega)
    have ht := tok_sim h a
    rw [b] at ht
    exact ⟨fun c g e l => .blank (by omega) ht (this.1 c g e l), fun c e he => .blank (by omega) ht (this.2 c e he)⟩
  | bad a b =>
    have ht := tok_sim h a
    rw [b] at ht
    refine ⟨fun c g e l => (by cases e), fun c e he => ?_⟩
    cases he
    exact .bad (by omega) ht
  | word a b k ih =>
    have hq := tok_to a b
    have := ih hq.2
    have ht := tok_sim h a
    rw [b] at ht
    exact ⟨fun c g e l => .word (by omega) ht (this.1 c g e l), fun c e he => .word (by omega) ht (this.2 c e he)⟩
end Go.Proofs.YtabfhdmcljdjhaaGreatDoor.Gl
/- Words of a text: places, texts cut at a fault, texts joined: plain mathematics. -/
namespace Go.Proofs.YtabfhdmcljdjhaaGreatDoor.Gl
set_option linter.unusedVariables false

/-- from p on whole characters lead to e -/
inductive Bd (s : ByteArray) : Nat → Nat → Prop
  | nil (p) : Bd s p p
  | cons {p e} : p < s.size → Bd s (p + (rdS s p).2.1) e → Bd s p e
theorem Bd.trans {s : ByteArray} {p q e : Nat} (h : Bd s p q) (k : Bd s q e) : Bd s p e := by
  induction h with
  | nil => exact k
  | cons a _ ih => exact .cons a (ih k)
theorem Bd.le {s : ByteArray} {p e : Nat} (h : Bd s p e) : p ≤ e := by
  induction h with
  | nil => exact Nat.le_refl _
  | cons _ _ ih => omega
theorem Bd.le_size {s : ByteArray} {p e : Nat} (h : Bd s p e) (hp : p ≤ s.size) : e ≤ s.size := by
  induction h with
  | nil => exact hp
  | cons a _ ih => exact ih (rd_bd s _ a).2.1
theorem Bd.step {s : ByteArray} {p e : Nat} (h : Bd s p e) (hp : p < e) : p + (rdS s p).2.1 ≤ e := by
  cases h with
  | nil => omega
  | cons _ k => exact k.le
theorem RunTo.bd {P : Nat → Bool} {s : ByteArray} {p q : Nat} (h : RunTo P s p q) : Bd s p q := by
  induction h with
  | nil => exact .nil _
  | cons a _ _ _ ih => exact .cons a ih
theorem bd_pos {s : ByteArray} : ∀ (k : Nat), (∀ j, j < k → pos s j < s.size) → Bd s 0 (pos s k)
  | 0, _ => .nil 0
  | k + 1, h => (bd_pos k (fun j hj => h j (by omega))).trans (.cons (h k (by omega)) (by rw [← pos_succ]; exact .nil _))
theorem pos_bd {s : ByteArray} {p e : Nat} (h : Bd s p e) : ∀ k, pos s k = p → (∀ j, j < k → pos s j < s.size) → ∃ m, pos s m = e ∧ ∀ j, j < m → pos s j < s.size := by
  induction h with
  | nil => intro k h1 h2; exact ⟨k, h1, h2⟩
  | cons a _ ih =>
    intro k h1 h2
    refine ih (k + 1) (by rw [pos_succ, h1]) (fun j hj => ?_)
    rcases Nat.lt_succ_iff_lt_or_eq.1 hj with hj | rfl
    · exact h2 j hj
    · rw [h1]; exact a
/-- the place of a byte at which a character begins -/
theorem bd_place {s : ByteArray} {e : Nat} (h : Bd s 0 e) : ∃ m, pos s m = e ∧ (∀ j, j < m → pos s j < s.size) ∧ IsCnt (s.extract 0 e) m := by
  obtain ⟨m, h1, h2⟩ := pos_bd h 0 rfl (fun j hj => by omega)
  exact ⟨m, h1, h2, by rw [← h1]; exact cnt_cut s m h2⟩
theorem bd_ascii {s : ByteArray} : ∀ (n p : Nat), p + n ≤ s.size → (∀ j, j < n → bt s (p + j) < 128) → Bd s p (p + n)
  | 0, p, _, _ => .nil p
  | n + 1, p, h, hb => by
    have h0 := hb 0 (by omega)
    rw [Nat.add_zero] at h0
    refine .cons (by omega) ?_
    rw [rd_one s p h0]
    have := bd_ascii (s := s) n (p + 1) (by omega) (fun j hj => by have := hb (j + 1) (by omega); rwa [show p + 1 + j = p + (j + 1) by omega])
    rw [show p + 1 + n = p + (n + 1) by omega] at this
    exact this
theorem blank_one {s : ByteArray} {p : Nat} (h : blB ((rdS s p).1 : Nat) = true) : (rdS s p).2.1 = 1 ∧ blB (bt s p : Nat) = true := by
  have hr : (rdS s p).1 < 128 := by
    have := of_decide_eq_true h
    omega
  obtain ⟨h1, h2, _⟩ := rd_ascii hr
  exact ⟨h2, by rw [h1]; exact h⟩
theorem sgn_mem {s : ByteArray} {p : Nat} (h : ¬ sgn s p = emp) : fits s p (sgn s p) = true ∧ sgn s p ∈ allSigns ∧ 0 < (sgn s p).size := by
  rcases longest_or s p allSigns emp with e | ⟨e1, e2, e3⟩
  · exact absurd e h
  · exact ⟨e1, e2, Nat.lt_of_le_of_lt (Nat.zero_le _) e3⟩
/-- what the token says -/
theorem tok_cases (s : ByteArray) (p : Nat) :
    (blB ((rdS s p).1 : Nat) = true ∧ tok s p = .blank) ∨ (blB ((rdS s p).1 : Nat) = false ∧
      (((rdS s p).2.2 = false ∧ tok s p = .bad 50) ∨ ((rdS s p).2.2 = true ∧
        ((stB ((rdS s p).1 : Nat) = true ∧ ((rsB (s.extract p (run reN s p)) = true ∧ tok s p = .word 2 (s.extract p (run reN s p)) 0 (run reN s p)) ∨ (rsB (s.extract p (run reN s p)) = false ∧ 16 < cnt (s.extract p (run reN s p)) ∧ tok s p = .bad 6) ∨
          (rsB (s.extract p (run reN s p)) = false ∧ ¬ 16 < cnt (s.extract p (run reN s p)) ∧ tok s p = .word 0 (s.extract p (run reN s p)) 0 (run reN s p)))) ∨
         (stB ((rdS s p).1 : Nat) = false ∧ isDig (rdS s p).1 = true ∧ ((9223372036854775807 < valF s p (run isDig s p - p) ∧ tok s p = .bad 52) ∨ (¬ 9223372036854775807 < valF s p (run isDig s p - p) ∧ tok s p = .word 1 emp (valF s p (run isDig s p - p)) (run isDig s p)))) ∨
         (stB ((rdS s p).1 : Nat) = false ∧ isDig (rdS s p).1 = false ∧ plB ((rdS s p).1 : Nat) ≠ emp ∧ tok s p = .word 2 (plB ((rdS s p).1 : Nat)) 0 (p + (rdS s p).2.1)) ∨
         (stB ((rdS s p).1 : Nat) = false ∧ isDig (rdS s p).1 = false ∧ plB ((rdS s p).1 : Nat) = emp ∧ ((sgn s p = emp ∧ tok s p = .bad 51) ∨ (¬ sgn s p = emp ∧ tok s p = .word 2 (sgn s p) 0 (p + (sgn s p).size)))))))) := by
  have e : tok s p = tok s p := rfl
  conv at e => rhs; unfold tok
  cases h1 : blB ((rdS s p).1 : Nat) with
  | true => rw [h1, if_pos rfl] at e; exact .inl ⟨rfl, e⟩
  | false =>
    rw [h1, if_neg (by decide)] at e
    refine .inr ⟨rfl, ?_⟩
    cases h2 : (rdS s p).2.2 with
    | false => rw [h2, if_pos rfl] at e; exact .inl ⟨rfl, e⟩
    | true =>
      rw [h2, if_neg (by decide)] at e
      refine .inr ⟨rfl, ?_⟩
      cases h3 : stB ((rdS s p).1 : Nat) with
      | true =>
        rw [h3, if_pos rfl] at e
        refine .inl ⟨rfl, ?_⟩
        cases h4 : rsB (s.extract p (run reN s p)) with
        | true => rw [h4, if_pos rfl] at e; exact .inl ⟨rfl, e⟩
        | false =>
          rw [h4, if_neg (by decide)] at e
          by_cases h5 : 16 < cnt (s.extract p (run reN s p))
          · rw [if_pos h5] at e; exact .inr (.inl ⟨rfl, h5, e⟩)
          · rw [if_neg h5] at e; exact .inr (.inr ⟨rfl, h5, e⟩)
      | false =>
        rw [h3, if_neg (by decide)] at e
        cases h6 : isDig (rdS s p).1 with
        | true =>
          rw [h6, if_pos rfl] at e
          refine .inr (.inl ⟨rfl, rfl, ?_⟩)
          by_cases h7 : 9223372036854775807 < valF s p (run isDig s p - p)
          · rw [if_pos h7] at e; exact .inl ⟨h7, e⟩
          · rw [if_neg h7] at e; exact .inr ⟨h7, e⟩
        | false =>
          rw [h6, if_neg (by decide)] at e
          by_cases h8 : plB ((rdS s p).1 : Nat) = emp
          · rw [if_neg (fun h => h h8)] at e
            refine .inr (.inr (.inr ⟨rfl, rfl, h8, ?_⟩))
            by_cases h9 : sgn s p = emp
            · rw [if_pos h9] at e; exact .inl ⟨h9, e⟩
            · rw [if_neg h9] at e; exact .inr ⟨h9, e⟩
          · rw [if_pos h8] at e
            exact .inr (.inr (.inl ⟨rfl, rfl, h8, e⟩))
/-- a word is made of whole characters, the first of which is no blank -/
theorem tok_bd {s : ByteArray} {p k v q : Nat} {t : ByteArray} (hp : p < s.size) (h : tok s p = .word k t v q) : Bd s p q ∧ blB ((rdS s p).1 : Nat) = false := by
  rcases tok_cases s p with ⟨_, e⟩ | ⟨hbl, ⟨_, e⟩ | ⟨_, ⟨_, ⟨_, e⟩ | ⟨_, _, e⟩ | ⟨_, _, e⟩⟩ | ⟨_, _, ⟨_, e⟩ | ⟨_, e⟩⟩ | ⟨_, _, _, e⟩ | ⟨_, _, _, ⟨_, e⟩ | ⟨hne, e⟩⟩⟩⟩
  all_goals rw [h] at e
  all_goals cases e
  all_goals refine ⟨?_, hbl⟩
  · exact (run_run reN s p).bd
  · exact (run_run reN s p).bd
  · exact (run_run isDig s p).bd
  · exact .cons hp (.nil _)
  · obtain ⟨h1, h2, _⟩ := sgn_mem hne
    have h3 := (fits_iff s p _).1 h1
    exact bd_ascii _ p h3.1 (fun j hj => by rw [h3.2 j hj]; exact (signs_plain _ h2 j hj).2)
theorem blank_bd {s : ByteArray} {p : Nat} (hp : p < s.size) (h : tok s p = .blank) : Bd s p (p + 1) ∧ blB ((rdS s p).1 : Nat) = true := by
  have hbl : blB ((rdS s p).1 : Nat) = true := by
    rcases tok_cases s p with ⟨hbl, _⟩ | ⟨hbl, ⟨_, e⟩ | ⟨_, ⟨_, ⟨_, e⟩ | ⟨_, _, e⟩ | ⟨_, _, e⟩⟩ | ⟨_, _, ⟨_, e⟩ | ⟨_, e⟩⟩ | ⟨_, _, _, e⟩ | ⟨_, _, _, ⟨_, e⟩ | ⟨hne, e⟩⟩⟩⟩
    · exact hbl
    all_goals rw [h] at e
    all_goals cases e
  refine ⟨.cons hp ?_, hbl⟩
  rw [(blank_one hbl).1]
  exact .nil _
/-- a fault's place: a character begins there -/
theorem Lx.bd {s : ByteArray} {p : Nat} {ws : List Wd} {f : Option (Nat × Nat)} (h : Lx s p ws f) : (∀ w ∈ ws, Bd s p w.byte ∧ w.byte < s.size ∧ blB ((rdS s w.byte).1 : Nat) = false) ∧ ∀ c e, f = some (c, e) → Bd s p e ∧ e < s.size := by
  induction h with
  | done => exact ⟨fun w hw => (by cases hw), fun c e he => (by cases he)⟩
  | blank a b _ ih =>
    obtain ⟨h1, _⟩ := blank_bd a b
    exact ⟨fun w hw => ⟨h1.trans (ih.1 w hw).1, (ih.1 w hw).2⟩, fun c e he => ⟨h1.trans (ih.2 c e he).1, (ih.2 c e he).2⟩⟩
  | bad a b =>
    refine ⟨fun w hw => (by cases hw), fun c e he => ?_⟩
    cases he
    exact ⟨.nil _, a⟩
  | word a b _ ih =>
    obtain ⟨h1, h2⟩ := tok_bd a b
    refine ⟨fun w hw => ?_, fun c e he => ⟨h1.trans (ih.2 c e he).1, (ih.2 c e he).2⟩⟩
    rcases List.mem_cons.1 hw with rfl | hw
    · exact ⟨.nil _, a, h2⟩
    · exact ⟨h1.trans (ih.1 w hw).1, (ih.1 w hw).2⟩
/-- the words stand in order -/
theorem Lx.rise {s : ByteArray} {p : Nat} {ws : List Wd} {f : Option (Nat × Nat)} (h : Lx s p ws f) : (∀ w ∈ ws, p ≤ w.byte) ∧ ws.Pairwise (fun a b => a.byte < b.byte) := by
  induction h with
  | done => exact ⟨fun w hw => (by cases hw), .nil⟩
  | blank a b _ ih => exact ⟨fun w hw => by have := ih.1 w hw; omega, ih.2⟩
  | bad => exact ⟨fun w hw => (by cases hw), .nil⟩
  | word a b _ ih =>
    have hq := tok_to a b
    refine ⟨fun w hw => ?_, List.pairwise_cons.2 ⟨fun w hw => ?_, ih.2⟩⟩
    · rcases List.mem_cons.1 hw with rfl | hw
      · exact Nat.le_refl _
      · have := ih.1 w hw; omega
    · have := ih.1 w hw
      dsimp only
      omega
/-- ahead of the first word stand blanks -/
theorem Lx.ahead {s : ByteArray} {p : Nat} {ws : List Wd} {f : Option (Nat × Nat)} (h : Lx s p ws f) (hf : f = none) : ∀ i, p ≤ i → i < s.size → (∀ w ∈ ws, i < w.byte) → blB (bt s i : Nat) = true := by
  induction h with
  | done hd => intro i h1 h2 _; omega
  | blank a b _ ih =>
    intro i h1 h2 h3
    rcases Nat.lt_or_eq_of_le h1 with hlt | rfl
    · exact ih hf i hlt h2 h3
    · exact (blank_one (blank_bd a b).2).2
  | bad => cases hf
  | word a b _ ih =>
    intro i h1 h2 h3
    have h4 : i < _ := h3 _ (List.mem_cons_self ..)
    dsimp only at h4
    omega
end Go.Proofs.YtabfhdmcljdjhaaGreatDoor.Gl
/- Words of a text: a text cut at a fault; two texts joined by a blank: plain mathematics. -/
namespace Go.Proofs.YtabfhdmcljdjhaaGreatDoor.Gl
set_option linter.unusedVariables false

theorem st_dig {r : Nat} (h : stB (r : Nat) = true) : ¬ isDig r = true := by
  intro hd
  have h2 := of_decide_eq_true hd
  rw [st_eq] at h
  unfold laB grB at h
  simp only [Bool.or_eq_true, decide_eq_true_eq] at h
  omega
theorem tok_eq {c s : ByteArray} {d p : Nat} (e0 : rdS c p = rdS s (d + p))
    (hname : stB ((rdS s (d + p)).1 : Nat) = true → d + run reN c p = run reN s (d + p) ∧ c.extract p (run reN c p) = s.extract (d + p) (run reN s (d + p)))
    (hdig : isDig (rdS s (d + p)).1 = true → d + run isDig c p = run isDig s (d + p) ∧ valF c p (run isDig c p - p) = valF s (d + p) (run isDig s (d + p) - (d + p)))
    (hsgn : stB ((rdS s (d + p)).1 : Nat) = false → isDig (rdS s (d + p)).1 = false → plB ((rdS s (d + p)).1 : Nat) = emp → (rdS s (d + p)).2.2 = true → sgn c p = sgn s (d + p)) : (tok c p).move d = tok s (d + p) := by
  unfold tok
  rw [e0]
  split
  · rfl
  · split
    · rfl
    · rename_i hok
      split
      · rename_i hst
        obtain ⟨h1, h2⟩ := hname hst
        rw [h2, ← h1]
        split
        · rfl
        · split <;> rfl
      · rename_i hst
        split
        · rename_i hd
          obtain ⟨h1, h2⟩ := hdig hd
          rw [h2, ← h1]
          split <;> rfl
        · rename_i hd
          split
          · show Tk.word _ _ _ (d + (p + _)) = _
            rw [Nat.add_assoc]
          · rename_i hpl
            rw [hsgn (by simpa using hst) (by simpa using hd) (Classical.byContradiction hpl) (by simpa using hok)]
            split
            · rfl
            · show Tk.word _ _ _ (d + (p + _)) = _
              rw [Nat.add_assoc]
/-- a run within a window -/
theorem RunTo.win {P : Nat → Bool} {s : ByteArray} {a e : Nat} (he : e ≤ s.size) {x y : Nat} (h : RunTo P s x y) : ∀ i j, x = a + i → y = a + j → y ≤ e → RunTo P (s.extract a e) i j := by
  induction h with
  | nil p =>
    intro i j h1 h2 _
    obtain rfl : i = j := by omega
    exact .nil i
  | cons hp hok hP k ih =>
    intro i j h1 h2 h3
    subst h1
    have hk := k.le
    have hb := rd_bd s _ hp
    have hr := rd_win s a e i he (by omega) (by omega)
    refine .cons (by rw [size_win s a e he]; omega) (by rw [hr]; exact hok) (by rw [hr]; exact hP) (ih _ j (by rw [hr]; omega) h2 h3)
theorem ends_win {P : Nat → Bool} {s : ByteArray} {a e j : Nat} (he : e ≤ s.size) (h : Ends P s (a + j)) (hb : Bd s (a + j) e) : Ends P (s.extract a e) j := by
  rintro ⟨h1, h2, h3⟩
  rw [size_win s a e he] at h1
  have hr := rd_win s a e j he (hb.step (by omega)) (by omega)
  rw [hr] at h2 h3
  exact h ⟨by omega, h2, h3⟩
theorem run_win {P : Nat → Bool} {s : ByteArray} {a e i : Nat} (he : e ≤ s.size) (hq : run P s (a + i) ≤ e) (hb : Bd s (run P s (a + i)) e) : a + run P (s.extract a e) i = run P s (a + i) := by
  have hr := run_run P s (a + i)
  have hl := hr.le
  obtain ⟨j, hj⟩ : ∃ j, run P s (a + i) = a + j := ⟨run P s (a + i) - a, by omega⟩
  rw [hj] at hr hq hb ⊢
  have hen := run_ends P s (a + i)
  rw [hj] at hen
  rw [run_is (hr.win he i j rfl rfl hq) (ends_win he hen hb)]
theorem longest_max (s : ByteArray) (p : Nat) (l : List ByteArray) (b : ByteArray) : b.size ≤ (longest s p l b).size ∧ ∀ x ∈ l, fits s p x = true → x.size ≤ (longest s p l b).size := by
  induction l generalizing b with
  | nil => exact ⟨Nat.le_refl _, fun x hx => (by cases hx)⟩
  | cons y l ih =>
    rw [longest]
    split
    · rename_i h
      rw [Bool.and_eq_true, decide_eq_true_eq] at h
      obtain ⟨h1, h2⟩ := ih y
      refine ⟨by omega, fun x hx hf => ?_⟩
      rcases List.mem_cons.1 hx with rfl | hx
      · exact h1
      · exact h2 x hx hf
    · rename_i h
      obtain ⟨h1, h2⟩ := ih b
      refine ⟨h1, fun x hx hf => ?_⟩
      rcases List.mem_cons.1 hx with rfl | hx
      · rw [Bool.and_eq_true, decide_eq_true_eq] at h
        have : ¬ b.size < x.size := fun e => h ⟨hf, e⟩
        omega
      · exact h2 x hx hf
theorem fits_win {s : ByteArray} {a e i : Nat} (he : e ≤ s.size) (x : ByteArray) (hx : fits s (a + i) x = true → a + i + x.size ≤ e) (hi : a + i ≤ e) : fits (s.extract a e) i x = fits s (a + i) x := by
  rw [Bool.eq_iff_iff]
  constructor
  · intro h
    obtain ⟨h1, h2⟩ := (fits_iff _ _ _).1 h
    rw [size_win s a e he] at h1
    refine (fits_iff _ _ _).2 ⟨by omega, fun j hj => ?_⟩
    rw [← h2 j hj, bt_win s a e (i + j) he (by omega), Nat.add_assoc]
  · intro h
    have h3 := hx h
    obtain ⟨h1, h2⟩ := (fits_iff _ _ _).1 h
    refine (fits_iff _ _ _).2 ⟨by rw [size_win s a e he]; omega, fun j hj => ?_⟩
    rw [bt_win s a e (i + j) he (by omega), ← Nat.add_assoc]
    exact h2 j hj
theorem sgn_win {s : ByteArray} {a e i : Nat} (he : e ≤ s.size) (hi : a + i ≤ e) (h : a + i + (sgn s (a + i)).size ≤ e) : sgn (s.extract a e) i = sgn s (a + i) :=
  longest_congr _ _ (fun x hx => fits_win he x (fun hf => by have := (longest_max s (a + i) allSigns emp).2 x hx hf; unfold sgn at h; omega) hi)
/-- a word that lies within the window, whose end whole characters lead on to the window's end: it is that word there -/
theorem tok_win {s : ByteArray} {a e i k v q : Nat} {t : ByteArray} (he : e ≤ s.size) (hi : a + i < e) (h : tok s (a + i) = .word k t v q) (hq : q ≤ e) (hb : Bd s q e) : (tok (s.extract a e) i).move a = .word k t v q := by
  have hp : a + i < s.size := by omega
  obtain ⟨hbd, _⟩ := tok_bd hp h
  have hto := tok_to hp h
  have hst := hbd.step hto.1
  have e0 := rd_win s a e i he (by omega) hi
  rw [← h]
  refine tok_eq e0 (fun h1 => ?_) (fun h1 => ?_) (fun h1 h2 h3 h4 => ?_)
  · have hqe : run reN s (a + i) = q := by
      rcases tok_cases s (a + i) with ⟨_, e⟩ | ⟨_, ⟨_, e⟩ | ⟨_, ⟨_, ⟨_, e⟩ | ⟨_, _, e⟩ | ⟨_, _, e⟩⟩ | ⟨hc, _⟩ | ⟨hc, _⟩ | ⟨hc, _⟩⟩⟩
      any_goals (rw [h] at e; cases e)
      any_goals rfl
      all_goals (rw [h1] at hc; cases hc)
    have hr := run_win (P := reN) he (i := i) (a := a) (by rw [hqe]; exact hq) (by rw [hqe]; exact hb)
    refine ⟨hr, ?_⟩
    have hl := (run_run reN s (a + i)).le
    refine extract_eq (by omega) (by rw [size_win s a e he]; omega) (by omega) (fun j hj => ?_)
    rw [bt_win s a e (i + j) he (by omega), Nat.add_assoc]
  · have hqe : run isDig s (a + i) = q := by
      rcases tok_cases s (a + i) with ⟨_, e⟩ | ⟨_, ⟨_, e⟩ | ⟨_, ⟨hc, ⟨_, e⟩ | ⟨_, _, e⟩ | ⟨_, _, e⟩⟩ | ⟨_, _, ⟨_, e⟩ | ⟨_, e⟩⟩ | ⟨_, hc, _⟩ | ⟨_, hc, _⟩⟩⟩
      any_goals (rw [h] at e; cases e)
      any_goals rfl
      any_goals (rw [h1] at hc; cases hc)
      all_goals (exact absurd h1 (st_dig hc))
    have hr := run_win (P := isDig) he (i := i) (a := a) (by rw [hqe]; exact hq) (by rw [hqe]; exact hb)
    refine ⟨hr, ?_⟩
    have hl := (run_run isDig s (a + i)).le
    rw [show run isDig (s.extract a e) i - i = run isDig s (a + i) - (a + i) by omega]
    refine valF_congr _ (fun j hj => ?_)
    rw [bt_win s a e (i + j) he (by omega), Nat.add_assoc]
  · have hqe : a + i + (sgn s (a + i)).size = q := by
      rcases tok_cases s (a + i) with ⟨_, e⟩ | ⟨_, ⟨_, e⟩ | ⟨_, ⟨hc, _⟩ | ⟨_, hc, _⟩ | ⟨_, _, hc, _⟩ | ⟨_, _, _, ⟨_, e⟩ | ⟨_, e⟩⟩⟩⟩
      any_goals (rw [h] at e; cases e)
      any_goals rfl
      · rw [h1] at hc; cases hc
      · rw [h2] at hc; cases hc
      · exact absurd h3 hc
    exact sgn_win he (by omega) (by omega)
theorem Tk.move_zero (t : Tk) : t.move 0 = t := by cases t <;> simp [Tk.move]
/-- a text cut where its fault stands has the words ahead of it, and no fault -/
theorem Lx.cut {s : ByteArray} {p e : Nat} {ws : List Wd} {f : Option (Nat × Nat)} (h : Lx s p ws f) (hs : e ≤ s.size) : ∀ c, f = some (c, e) → Lx (s.extract 0 e) p ws none := by
  have hz : (s.extract 0 e).size = e := by rw [size_win s 0 e hs]; omega
  induction h with
  | done => intro c hc; cases hc
  | @blank p ws f a b k ih =>
    intro c hc
    have hk := (k.bd).2 c e hc
    have hle := hk.1.le
    obtain ⟨_, hbl⟩ := blank_bd a b
    have e0 := rd_cut s e p hs (by rw [(blank_one hbl).1]; exact hle) (by omega)
    refine .blank (by omega) ?_ (ih c hc)
    unfold tok
    rw [e0, if_pos hbl]
  | bad a b =>
    intro c hc
    cases hc
    exact .done (by omega)
  | @word p kd t v q ws f a b k ih =>
    intro c hc
    have hk := (k.bd).2 c e hc
    have hle := hk.1.le
    have hto := tok_to a b
    have h0 : tok s (0 + p) = .word kd t v q := by rw [Nat.zero_add]; exact b
    have ht := tok_win (a := 0) (i := p) hs (by omega) h0 hle hk.1
    rw [Tk.move_zero] at ht
    exact .word (by omega) ht (ih c hc)
end Go.Proofs.YtabfhdmcljdjhaaGreatDoor.Gl
/- Lists of texts: the law's same; the document's Index, put, Together. -/
namespace Go.Proofs.YtabfhdmcljdjhaaGreatDoor.Gl
open Go.RowKit
set_option linter.unusedVariables false

theorem toList_inj {x y : ByteArray} (h : x.toList = y.toList) : x = y := by
  rw [ByteArray.toList_eq, ByteArray.toList_eq] at h
  cases x; cases y
  exact congrArg ByteArray.mk (Array.toList_inj.1 h)
theorem eqS_iff (x y : ByteArray) : (x.toList == y.toList) = true ↔ x = y := by
  rw [beq_iff_eq]
  exact ⟨toList_inj, fun h => by rw [h]⟩
theorem slist_eq {T U : List ByteArray} (n : Nat) (hT : T.length = n) (hU : U.length = n) (h : ∀ j, j < n → T.getD j emp = U.getD j emp) : T = U := by
  apply List.ext_getElem (by rw [hT, hU])
  intro i h1 h2
  have := h i (by omega)
  rwa [sgetD_of h1, sgetD_of h2] at this
/-- where the name stands first -/
def idx (s : ByteArray) : List ByteArray → Int → Int
  | [], _ => -1
  | x :: l, k => if (x.toList == s.toList) = true then k else idx s l (k + 1)
theorem idx_step (s : ByteArray) (ss : List ByteArray) (k : Nat) (h : k < ss.length) : idx s (ss.drop k) k = if ((ss.getD k emp).toList == s.toList) = true then (k : Int) else idx s (ss.drop (k + 1)) ((k + 1 : Nat) : Int) := by
  rw [List.drop_eq_getElem_cons h, idx, sgetD_of h]; rfl
end Go.Proofs.YtabfhdmcljdjhaaGreatDoor.Gl
