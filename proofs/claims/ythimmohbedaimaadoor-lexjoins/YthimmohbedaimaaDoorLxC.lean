/- Words of a text: texts put together, texts cut: plain mathematics. -/
import Derived.Test.YthimmohbedaimaaDoorLxB
namespace Go.Proofs.YthimmohbedaimaaDoor.Gl
set_option linter.unusedVariables false

theorem run_gt {P : Nat → Bool} {s : ByteArray} {p : Nat} (hp : p < s.size) (h1 : (rdS s p).2.2 = true) (h2 : P (rdS s p).1 = true) : p < run P s p := by
  have hr : RunTo P s p (run P s (p + (rdS s p).2.1)) := .cons hp h1 h2 (run_run P s _)
  rw [run_is hr (run_ends P s _)]
  have := (run_run P s (p + (rdS s p).2.1)).le
  have := rd_bd s p hp
  omega
theorem extract_eq {u s : ByteArray} {a b i j : Nat} (hj : j ≤ s.size) (hb : b ≤ u.size) (hl : b - a = j - i) (h : ∀ k, i + k < j → bt u (a + k) = bt s (i + k)) : u.extract a b = s.extract i j := by
  apply ByteArray.ext_getElem
  · rw [ByteArray.size_extract, ByteArray.size_extract]; omega
  · intro k hk1 hk2
    rw [ByteArray.size_extract] at hk1 hk2
    have e := h k (by omega)
    rw [bt_of u (a + k) (by omega), bt_of s (i + k) (by omega)] at e
    rw [ByteArray.getElem_extract, ByteArray.getElem_extract]
    exact UInt8.toNat_inj.1 e
theorem extract_sim {u s : ByteArray} {d : Nat} (h : Sim u d s) {p q : Nat} (hq : q ≤ s.size) : u.extract (d + p) (d + q) = s.extract p q :=
  extract_eq hq (by have := h.size; omega) (by omega) (fun k hk => by rw [Nat.add_assoc]; exact h.byte _ (by omega))
theorem tok_sim {u s : ByteArray} {d : Nat} (h : Sim u d s) {p : Nat} (hp : p < s.size) : tok u (d + p) = (tok s p).move d := by
  have e := rd_sim h p hp
  have r1 := run_sim h (P := reN) (by decide +kernel) (Nat.le_of_lt hp)
  have r2 := run_sim h (P := isDig) (by decide) (Nat.le_of_lt hp)
  have l1 := (run_run reN s p).le_size (Nat.le_of_lt hp)
  have l2 := (run_run isDig s p).le_size (Nat.le_of_lt hp)
  have g2 := (run_run isDig s p).le
  have x1 := extract_sim h (p := p) l1
  have v2 : valF u (d + p) (d + run isDig s p - (d + p)) = valF s p (run isDig s p - p) := by
    rw [show d + run isDig s p - (d + p) = run isDig s p - p by omega]
    exact valF_congr _ (fun j hj => by rw [Nat.add_assoc]; exact h.byte _ (by omega))
  have s1 := sgn_sim h (Nat.le_of_lt hp)
  unfold tok
  rw [e, r1, r2, x1, v2, s1]
  split
  · rfl
  · split
    · rfl
    · split
      · split
        · rfl
        · split <;> rfl
      · split
        · split <;> rfl
        · split
          · rw [Nat.add_assoc]; rfl
          · split
            · rfl
            · rw [Nat.add_assoc]; rfl
/-- a word: its kind, text and number, and its first byte -/
structure Wd where
  kind : Nat
  text : ByteArray
  num : Nat
  byte : Nat
def Wd.move (d : Nat) (w : Wd) : Wd := ⟨w.kind, w.text, w.num, d + w.byte⟩
/-- the words from p on, and the fault -/
inductive Lx (s : ByteArray) : Nat → List Wd → Option (Nat × Nat) → Prop
  | done {p} : s.size ≤ p → Lx s p [] none
  | blank {p ws f} : p < s.size → tok s p = .blank → Lx s (p + 1) ws f → Lx s p ws f
  | bad {p e} : p < s.size → tok s p = .bad e → Lx s p [] (some (e, p))
  | word {p k t v q ws f} : p < s.size → tok s p = .word k t v q → Lx s q ws f → Lx s p (⟨k, t, v, p⟩ :: ws) f
theorem Lx.one {s : ByteArray} {p : Nat} {ws : List Wd} {f : Option (Nat × Nat)} (h : Lx s p ws f) : ∀ {ws' f'}, Lx s p ws' f' → ws = ws' ∧ f = f' := by
  induction h with
  | done h =>
    intro ws' f' k
    cases k with
    | done _ => exact ⟨rfl, rfl⟩
    | blank a _ _ => omega
    | bad a _ => omega
    | word a _ _ => omega
  | blank a b _ ih =>
    intro ws' f' k
    cases k with
    | done _ => omega
    | blank _ _ k => exact ih k
    | bad _ c => rw [b] at c; cases c
    | word _ c _ => rw [b] at c; cases c
  | bad a b =>
    intro ws' f' k
    cases k with
    | done _ => omega
    | blank _ c _ => rw [b] at c; cases c
    | bad _ c => rw [b] at c; cases c; exact ⟨rfl, rfl⟩
    | word _ c _ => rw [b] at c; cases c
  | word a b _ ih =>
    intro ws' f' k
    cases k with
    | done _ => omega
    | blank _ c _ => rw [b] at c; cases c
    | bad _ c => rw [b] at c; cases c
    | word _ c k =>
      rw [b] at c
      cases c
      obtain ⟨rfl, rfl⟩ := ih k
      exact ⟨rfl, rfl⟩
/-- where a word ends: behind its beginning, and within the text -/
theorem tok_to {s : ByteArray} {p k v q : Nat} {t : ByteArray} (hp : p < s.size) (h : tok s p = .word k t v q) : p < q ∧ q ≤ s.size := by
  have hb := rd_bd s p hp
  unfold tok at h
  split at h
  · cases h
  · split at h
    · cases h
    · rename_i hok
      have hok' : (rdS s p).2.2 = true := by
        cases hq : (rdS s p).2.2 with
        | true => rfl
        | false => exact absurd hq hok
      split at h
      · rename_i hst
        have hre : reN (rdS s p).1 = true := reB_of hst
        have hl := (run_run reN s p).le_size (Nat.le_of_lt hp)
        have hg := run_gt hp hok' hre
        split at h
        · cases h; exact ⟨hg, hl⟩
        · split at h
          · cases h
          · cases h; exact ⟨hg, hl⟩
      · split at h
        · rename_i hd
          have hl := (run_run isDig s p).le_size (Nat.le_of_lt hp)
          have hg := run_gt hp hok' hd
          split at h
          · cases h
          · cases h; exact ⟨hg, hl⟩
        · split at h
          · cases h; omega
          · split at h
            · cases h
            · rename_i hne
              cases h
              have hf := longest_fits s p allSigns emp hne
              have h1 := (fits_iff s p _).1 hf.1
              have h2 := hf.2
              exact ⟨by unfold sgn; omega, h1.1⟩
theorem Lx.is (s : ByteArray) : ∀ n p, s.size ≤ p + n → ∃ ws f, Lx s p ws f
  | 0, p, h => ⟨[], none, .done (by omega)⟩
  | n + 1, p, h => by
    by_cases hp : p < s.size
    · cases ht : tok s p with
      | blank =>
        obtain ⟨ws, f, k⟩ := Lx.is s n (p + 1) (by omega)
        exact ⟨ws, f, .blank hp ht k⟩
      | bad e => exact ⟨_, _, .bad hp ht⟩
      | word k t v q =>
        obtain ⟨ws, f, l⟩ := Lx.is s n q (by have := tok_to hp ht; omega)
        exact ⟨_, _, .word hp ht l⟩
    · exact ⟨[], none, .done (by omega)⟩
theorem Lx.ex (s : ByteArray) : ∃ ws f, Lx s 0 ws f := Lx.is s s.size 0 (by omega)
/-- words ahead of what follows -/
theorem Lx.sim {u s : ByteArray} {d : Nat} (h : Sim u d s) {p : Nat} {a : List Wd} {f : Option (Nat × Nat)} (k : Lx s p a f) (hp : p ≤ s.size) : 
    (∀ b g, f = none → Lx u (d + s.size) b g → Lx u (d + p) (a.map (Wd.move d) ++ b) g) ∧ (∀ c e, f = some (c, e) → Lx u (d + p) (a.map (Wd.move d)) (some (c, d + e))) := by
  have hsz := h.size
  induction k with
  | done hd =>
    refine ⟨fun b g _ l => ?_, fun c e he => (by cases he)⟩
    obtain rfl : _ = s.size := Nat.le_antisymm hp hd
    exact l
  | blank a b k ih =>
    have := ih (by omega)
    have ht := tok_sim h a
    rw [b] at ht
    exact ⟨fun c g e l => .blank (by omega) ht (this.1 c g e l), fun c e he => .blank (by omega) ht (this.2 c e he)⟩
  | bad a b =>
    have ht := tok_sim h a
    rw [b] at ht
    refine ⟨fun c g e l => (by cases e), fun c e he => ?_⟩
    cases he
    exact .bad (by omega) ht
  | word a b k ih =>
    have hq := tok_to a b
    have := ih hq.2
    have ht := tok_sim h a
    rw [b] at ht
    exact ⟨fun c g e l => .word (by omega) ht (this.1 c g e l), fun c e he => .word (by omega) ht (this.2 c e he)⟩
end Go.Proofs.YthimmohbedaimaaDoor.Gl
