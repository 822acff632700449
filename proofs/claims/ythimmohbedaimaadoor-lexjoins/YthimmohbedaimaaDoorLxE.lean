/- Words of a text: a text cut at a fault; two texts joined by a blank: plain mathematics. -/
import Derived.Test.YthimmohbedaimaaDoorLxD
namespace Go.Proofs.YthimmohbedaimaaDoor.Gl
set_option linter.unusedVariables false

theorem st_dig {r : Nat} (h : stB (r : Nat) = true) : ¬ isDig r = true := by
  intro hd
  have h2 := of_decide_eq_true hd
  rw [st_eq] at h
  unfold laB grB at h
  simp only [Bool.or_eq_true, decide_eq_true_eq] at h
  omega
theorem tok_eq {c s : ByteArray} {d p : Nat} (e0 : rdS c p = rdS s (d + p))
    (hname : stB ((rdS s (d + p)).1 : Nat) = true → d + run reN c p = run reN s (d + p) ∧ c.extract p (run reN c p) = s.extract (d + p) (run reN s (d + p)))
    (hdig : isDig (rdS s (d + p)).1 = true → d + run isDig c p = run isDig s (d + p) ∧ valF c p (run isDig c p - p) = valF s (d + p) (run isDig s (d + p) - (d + p)))
    (hsgn : stB ((rdS s (d + p)).1 : Nat) = false → isDig (rdS s (d + p)).1 = false → plB ((rdS s (d + p)).1 : Nat) = emp → (rdS s (d + p)).2.2 = true → sgn c p = sgn s (d + p)) : (tok c p).move d = tok s (d + p) := by
  unfold tok
  rw [e0]
  split
  · rfl
  · split
    · rfl
    · rename_i hok
      split
      · rename_i hst
        obtain ⟨h1, h2⟩ := hname hst
        rw [h2, ← h1]
        split
        · rfl
        · split <;> rfl
      · rename_i hst
        split
        · rename_i hd
          obtain ⟨h1, h2⟩ := hdig hd
          rw [h2, ← h1]
          split <;> rfl
        · rename_i hd
          split
          · show Tk.word _ _ _ (d + (p + _)) = _
            rw [Nat.add_assoc]
          · rename_i hpl
            rw [hsgn (by simpa using hst) (by simpa using hd) (Classical.byContradiction hpl) (by simpa using hok)]
            split
            · rfl
            · show Tk.word _ _ _ (d + (p + _)) = _
              rw [Nat.add_assoc]
/-- a run within a window -/
theorem RunTo.win {P : Nat → Bool} {s : ByteArray} {a e : Nat} (he : e ≤ s.size) {x y : Nat} (h : RunTo P s x y) : ∀ i j, x = a + i → y = a + j → y ≤ e → RunTo P (s.extract a e) i j := by
  induction h with
  | nil p =>
    intro i j h1 h2 _
    obtain rfl : i = j := by omega
    exact .nil i
  | cons hp hok hP k ih =>
    intro i j h1 h2 h3
    subst h1
    have hk := k.le
    have hb := rd_bd s _ hp
    have hr := rd_win s a e i he (by omega) (by omega)
    refine .cons (by rw [size_win s a e he]; omega) (by rw [hr]; exact hok) (by rw [hr]; exact hP) (ih _ j (by rw [hr]; omega) h2 h3)
theorem ends_win {P : Nat → Bool} {s : ByteArray} {a e j : Nat} (he : e ≤ s.size) (h : Ends P s (a + j)) (hb : Bd s (a + j) e) : Ends P (s.extract a e) j := by
  rintro ⟨h1, h2, h3⟩
  rw [size_win s a e he] at h1
  have hr := rd_win s a e j he (hb.step (by omega)) (by omega)
  rw [hr] at h2 h3
  exact h ⟨by omega, h2, h3⟩
theorem run_win {P : Nat → Bool} {s : ByteArray} {a e i : Nat} (he : e ≤ s.size) (hq : run P s (a + i) ≤ e) (hb : Bd s (run P s (a + i)) e) : a + run P (s.extract a e) i = run P s (a + i) := by
  have hr := run_run P s (a + i)
  have hl := hr.le
  obtain ⟨j, hj⟩ : ∃ j, run P s (a + i) = a + j := ⟨run P s (a + i) - a, by omega⟩
  rw [hj] at hr hq hb ⊢
  have hen := run_ends P s (a + i)
  rw [hj] at hen
  rw [run_is (hr.win he i j rfl rfl hq) (ends_win he hen hb)]
theorem longest_max (s : ByteArray) (p : Nat) (l : List ByteArray) (b : ByteArray) : b.size ≤ (longest s p l b).size ∧ ∀ x ∈ l, fits s p x = true → x.size ≤ (longest s p l b).size := by
  induction l generalizing b with
  | nil => exact ⟨Nat.le_refl _, fun x hx => (by cases hx)⟩
  | cons y l ih =>
    rw [longest]
    split
    · rename_i h
      rw [Bool.and_eq_true, decide_eq_true_eq] at h
      obtain ⟨h1, h2⟩ := ih y
      refine ⟨by omega, fun x hx hf => ?_⟩
      rcases List.mem_cons.1 hx with rfl | hx
      · exact h1
      · exact h2 x hx hf
    · rename_i h
      obtain ⟨h1, h2⟩ := ih b
      refine ⟨h1, fun x hx hf => ?_⟩
      rcases List.mem_cons.1 hx with rfl | hx
      · rw [Bool.and_eq_true, decide_eq_true_eq] at h
        have : ¬ b.size < x.size := fun e => h ⟨hf, e⟩
        omega
      · exact h2 x hx hf
theorem fits_win {s : ByteArray} {a e i : Nat} (he : e ≤ s.size) (x : ByteArray) (hx : fits s (a + i) x = true → a + i + x.size ≤ e) (hi : a + i ≤ e) : fits (s.extract a e) i x = fits s (a + i) x := by
  rw [Bool.eq_iff_iff]
  constructor
  · intro h
    obtain ⟨h1, h2⟩ := (fits_iff _ _ _).1 h
    rw [size_win s a e he] at h1
    refine (fits_iff _ _ _).2 ⟨by omega, fun j hj => ?_⟩
    rw [← h2 j hj, bt_win s a e (i + j) he (by omega), Nat.add_assoc]
  · intro h
    have h3 := hx h
    obtain ⟨h1, h2⟩ := (fits_iff _ _ _).1 h
    refine (fits_iff _ _ _).2 ⟨by rw [size_win s a e he]; omega, fun j hj => ?_⟩
    rw [bt_win s a e (i + j) he (by omega), ← Nat.add_assoc]
    exact h2 j hj
theorem sgn_win {s : ByteArray} {a e i : Nat} (he : e ≤ s.size) (hi : a + i ≤ e) (h : a + i + (sgn s (a + i)).size ≤ e) : sgn (s.extract a e) i = sgn s (a + i) :=
  longest_congr _ _ (fun x hx => fits_win he x (fun hf => by have := (longest_max s (a + i) allSigns emp).2 x hx hf; unfold sgn at h; omega) hi)
/-- a word that lies within the window, whose end whole characters lead on to the window's end: it is that word there -/
theorem tok_win {s : ByteArray} {a e i k v q : Nat} {t : ByteArray} (he : e ≤ s.size) (hi : a + i < e) (h : tok s (a + i) = .word k t v q) (hq : q ≤ e) (hb : Bd s q e) : (tok (s.extract a e) i).move a = .word k t v q := by
  have hp : a + i < s.size := by omega
  obtain ⟨hbd, _⟩ := tok_bd hp h
  have hto := tok_to hp h
  have hst := hbd.step hto.1
  have e0 := rd_win s a e i he (by omega) hi
  rw [← h]
  refine tok_eq e0 (fun h1 => ?_) (fun h1 => ?_) (fun h1 h2 h3 h4 => ?_)
  · have hqe : run reN s (a + i) = q := by
      rcases tok_cases s (a + i) with ⟨_, e⟩ | ⟨_, ⟨_, e⟩ | ⟨_, ⟨_, ⟨_, e⟩ | ⟨_, _, e⟩ | ⟨_, _, e⟩⟩ | ⟨hc, _⟩ | ⟨hc, _⟩ | ⟨hc, _⟩⟩⟩
      any_goals (rw [h] at e; cases e)
      any_goals rfl
      all_goals (rw [h1] at hc; cases hc)
    have hr := run_win (P := reN) he (i := i) (a := a) (by rw [hqe]; exact hq) (by rw [hqe]; exact hb)
    refine ⟨hr, ?_⟩
    have hl := (run_run reN s (a + i)).le
    refine extract_eq (by omega) (by rw [size_win s a e he]; omega) (by omega) (fun j hj => ?_)
    rw [bt_win s a e (i + j) he (by omega), Nat.add_assoc]
  · have hqe : run isDig s (a + i) = q := by
      rcases tok_cases s (a + i) with ⟨_, e⟩ | ⟨_, ⟨_, e⟩ | ⟨_, ⟨hc, ⟨_, e⟩ | ⟨_, _, e⟩ | ⟨_, _, e⟩⟩ | ⟨_, _, ⟨_, e⟩ | ⟨_, e⟩⟩ | ⟨_, hc, _⟩ | ⟨_, hc, _⟩⟩⟩
      any_goals (rw [h] at e; cases e)
      any_goals rfl
      any_goals (rw [h1] at hc; cases hc)
      all_goals (exact absurd h1 (st_dig hc))
    have hr := run_win (P := isDig) he (i := i) (a := a) (by rw [hqe]; exact hq) (by rw [hqe]; exact hb)
    refine ⟨hr, ?_⟩
    have hl := (run_run isDig s (a + i)).le
    rw [show run isDig (s.extract a e) i - i = run isDig s (a + i) - (a + i) by omega]
    refine valF_congr _ (fun j hj => ?_)
    rw [bt_win s a e (i + j) he (by omega), Nat.add_assoc]
  · have hqe : a + i + (sgn s (a + i)).size = q := by
      rcases tok_cases s (a + i) with ⟨_, e⟩ | ⟨_, ⟨_, e⟩ | ⟨_, ⟨hc, _⟩ | ⟨_, hc, _⟩ | ⟨_, _, hc, _⟩ | ⟨_, _, _, ⟨_, e⟩ | ⟨_, e⟩⟩⟩⟩
      any_goals (rw [h] at e; cases e)
      any_goals rfl
      · rw [h1] at hc; cases hc
      · rw [h2] at hc; cases hc
      · exact absurd h3 hc
    exact sgn_win he (by omega) (by omega)
theorem Tk.move_zero (t : Tk) : t.move 0 = t := by cases t <;> simp [Tk.move]
/-- a text cut where its fault stands has the words ahead of it, and no fault -/
theorem Lx.cut {s : ByteArray} {p e : Nat} {ws : List Wd} {f : Option (Nat × Nat)} (h : Lx s p ws f) (hs : e ≤ s.size) : ∀ c, f = some (c, e) → Lx (s.extract 0 e) p ws none := by
  have hz : (s.extract 0 e).size = e := by rw [size_win s 0 e hs]; omega
  induction h with
  | done => intro c hc; cases hc
  | @blank p ws f a b k ih =>
    intro c hc
    have hk := (k.bd).2 c e hc
    have hle := hk.1.le
    obtain ⟨_, hbl⟩ := blank_bd a b
    have e0 := rd_cut s e p hs (by rw [(blank_one hbl).1]; exact hle) (by omega)
    refine .blank (by omega) ?_ (ih c hc)
    unfold tok
    rw [e0, if_pos hbl]
  | bad a b =>
    intro c hc
    cases hc
    exact .done (by omega)
  | @word p kd t v q ws f a b k ih =>
    intro c hc
    have hk := (k.bd).2 c e hc
    have hle := hk.1.le
    have hto := tok_to a b
    have h0 : tok s (0 + p) = .word kd t v q := by rw [Nat.zero_add]; exact b
    have ht := tok_win (a := 0) (i := p) hs (by omega) h0 hle hk.1
    rw [Tk.move_zero] at ht
    exact .word (by omega) ht (ih c hc)
end Go.Proofs.YthimmohbedaimaaDoor.Gl
