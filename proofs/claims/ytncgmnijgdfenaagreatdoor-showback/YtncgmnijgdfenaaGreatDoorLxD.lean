/- Words of a text: the plain function; texts put together: plain mathematics. -/
import Derived.Test.YtncgmnijgdfenaaGreatDoorLxA
namespace Go.Proofs.YtncgmnijgdfenaaGreatDoor.Gl
set_option linter.unusedVariables false

/-- where the run of characters with P ends -/
def runF (P : Nat → Bool) (s : ByteArray) : Nat → Nat → Nat
  | 0, p => p
  | f + 1, p => if p < s.size ∧ (rdS s p).2.2 = true ∧ P (rdS s p).1 = true then runF P s f (p + (rdS s p).2.1) else p
/-- a run of characters with P -/
inductive RunTo (P : Nat → Bool) (s : ByteArray) : Nat → Nat → Prop
  | nil (p) : RunTo P s p p
  | cons {p q} : p < s.size → (rdS s p).2.2 = true → P (rdS s p).1 = true → RunTo P s (p + (rdS s p).2.1) q → RunTo P s p q
/-- nothing with P stands at p -/
def Ends (P : Nat → Bool) (s : ByteArray) (p : Nat) : Prop := ¬ (p < s.size ∧ (rdS s p).2.2 = true ∧ P (rdS s p).1 = true)
theorem RunTo.le {P : Nat → Bool} {s : ByteArray} {p q : Nat} (h : RunTo P s p q) : p ≤ q := by
  induction h with
  | nil => exact Nat.le_refl _
  | cons hp _ _ _ ih => omega
theorem RunTo.le_size {P : Nat → Bool} {s : ByteArray} {p q : Nat} (h : RunTo P s p q) (hp : p ≤ s.size) : q ≤ s.size := by
  induction h with
  | nil => exact hp
  | cons a _ _ _ ih => exact ih (rd_bd s _ a).2.1
theorem runF_run (P : Nat → Bool) (s : ByteArray) : ∀ f p, RunTo P s p (runF P s f p)
  | 0, p => .nil p
  | f + 1, p => by
    rw [runF]
    split
    · rename_i h
      exact .cons h.1 h.2.1 h.2.2 (runF_run P s f _)
    · exact .nil p
theorem runF_ends (P : Nat → Bool) (s : ByteArray) : ∀ f p, s.size ≤ p + f → Ends P s (runF P s f p)
  | 0, p, h => fun hc => by rw [runF] at hc; omega
  | f + 1, p, h => by
    rw [runF]
    split
    · rename_i hc
      have := rd_bd s p hc.1
      exact runF_ends P s f _ (by omega)
    · rename_i hc
      exact hc
theorem run_one {P : Nat → Bool} {s : ByteArray} {p q r : Nat} (h : RunTo P s p q) (hq : Ends P s q) (k : RunTo P s p r) (hr : Ends P s r) : q = r := by
  induction h generalizing r with
  | nil =>
    cases k with
    | nil => rfl
    | cons a b c _ => exact absurd ⟨a, b, c⟩ hq
  | cons a b c h ih =>
    cases k with
    | nil => exact absurd ⟨a, b, c⟩ hr
    | cons _ _ _ k => exact ih hq k hr
def run (P : Nat → Bool) (s : ByteArray) (p : Nat) : Nat := runF P s s.size p
theorem run_is {P : Nat → Bool} {s : ByteArray} {p q : Nat} (h : RunTo P s p q) (hq : Ends P s q) : run P s p = q :=
  run_one (runF_run P s s.size p) (runF_ends P s s.size p (by omega)) h hq
theorem run_run (P : Nat → Bool) (s : ByteArray) (p : Nat) : RunTo P s p (run P s p) := runF_run P s s.size p
theorem run_ends (P : Nat → Bool) (s : ByteArray) (p : Nat) : Ends P s (run P s p) := runF_ends P s s.size p (by omega)
theorem RunTo.sim {P : Nat → Bool} {u s : ByteArray} {d : Nat} (h : Sim u d s) {p q : Nat} (k : RunTo P s p q) : RunTo P u (d + p) (d + q) := by
  induction k with
  | nil => exact .nil _
  | cons a b c _ ih =>
    have e := rd_sim h _ a
    refine .cons (by have := h.size; omega) (by rw [e]; exact b) (by rw [e]; exact c) ?_
    rw [e, Nat.add_assoc]
    exact ih
theorem rd_blank {s : ByteArray} {p : Nat} (h : bt s p = 32) : rdS s p = (32, 1, true) := by rw [rd_one s p (by omega), h]
theorem ends_sim {P : Nat → Bool} {u s : ByteArray} {d : Nat} (h : Sim u d s) (hP : P 32 = false) {q : Nat} (hq : q ≤ s.size) (k : Ends P s q) : Ends P u (d + q) := by
  rintro ⟨a, b, c⟩
  by_cases hlt : q < s.size
  · rw [rd_sim h q hlt] at b c
    exact k ⟨hlt, b, c⟩
  · obtain rfl : q = s.size := by omega
    rcases h.stop with e | e
    · omega
    · rw [rd_blank e] at c
      rw [hP] at c; cases c
theorem run_sim {P : Nat → Bool} {u s : ByteArray} {d : Nat} (h : Sim u d s) (hP : P 32 = false) {p : Nat} (hp : p ≤ s.size) : run P u (d + p) = d + run P s p :=
  run_is ((run_run P s p).sim h) (ends_sim h hP ((run_run P s p).le_size hp) (run_ends P s p))
/- signs -/
abbrev allSigns : List ByteArray := [⟨#[40]⟩, ⟨#[41]⟩, ⟨#[91]⟩, ⟨#[93]⟩, ⟨#[44]⟩, ⟨#[46]⟩, ⟨#[43]⟩, ⟨#[45]⟩, ⟨#[42]⟩, ⟨#[61]⟩, ⟨#[33, 61]⟩, ⟨#[60, 61]⟩, ⟨#[62, 61]⟩, ⟨#[60]⟩, ⟨#[62]⟩, ⟨#[45, 62]⟩, ⟨#[60, 45, 62]⟩, ⟨#[126]⟩]
/-- does x stand at p? -/
def fits (s : ByteArray) (p : Nat) (x : ByteArray) : Bool := decide (p + x.size ≤ s.size) && (List.range x.size).all (fun j => bt s (p + j) == bt x j)
theorem fits_iff (s : ByteArray) (p : Nat) (x : ByteArray) : fits s p x = true ↔ p + x.size ≤ s.size ∧ ∀ j, j < x.size → bt s (p + j) = bt x j := by
  unfold fits
  rw [Bool.and_eq_true, decide_eq_true_eq, List.all_eq_true]
  simp only [List.mem_range, beq_iff_eq]
/-- the longest of them that stands at p -/
def longest (s : ByteArray) (p : Nat) : List ByteArray → ByteArray → ByteArray
  | [], b => b
  | x :: l, b => longest s p l (if (fits s p x && decide (b.size < x.size)) = true then x else b)
theorem longest_congr {s u : ByteArray} {p q : Nat} (l : List ByteArray) (b : ByteArray) (h : ∀ x ∈ l, fits s p x = fits u q x) : longest s p l b = longest u q l b := by
  induction l generalizing b with
  | nil => rfl
  | cons x l ih =>
    rw [longest, longest, h x (List.mem_cons_self ..)]
    exact ih _ (fun y hy => h y (List.mem_cons_of_mem _ hy))
theorem longest_or (s : ByteArray) (p : Nat) (l : List ByteArray) (b : ByteArray) : longest s p l b = b ∨ (fits s p (longest s p l b) = true ∧ longest s p l b ∈ l ∧ b.size < (longest s p l b).size) := by
  induction l generalizing b with
  | nil => exact .inl rfl
  | cons x l ih =>
    rw [longest]
    split
    · rename_i h
      rw [Bool.and_eq_true, decide_eq_true_eq] at h
      rcases ih x with e | ⟨e1, e2, e3⟩
      · rw [e]; exact .inr ⟨h.1, List.mem_cons_self .., h.2⟩
      · exact .inr ⟨e1, List.mem_cons_of_mem _ e2, by omega⟩
    · rcases ih b with e | ⟨e1, e2, e3⟩
      · exact .inl e
      · exact .inr ⟨e1, List.mem_cons_of_mem _ e2, e3⟩
theorem longest_fits (s : ByteArray) (p : Nat) (l : List ByteArray) (b : ByteArray) (h : ¬ longest s p l b = b) : fits s p (longest s p l b) = true ∧ 0 < (longest s p l b).size := by
  rcases longest_or s p l b with e | ⟨e1, _, e3⟩
  · exact absurd e h
  · exact ⟨e1, by omega⟩
def sgn (s : ByteArray) (p : Nat) : ByteArray := longest s p allSigns emp
/-- no sign has a blank -/
theorem signs_plain : ∀ x ∈ allSigns, ∀ j, j < x.size → bt x j ≠ 32 ∧ bt x j < 128 := by decide +kernel
theorem fits_sim {u s : ByteArray} {d : Nat} (h : Sim u d s) {p : Nat} (hp : p ≤ s.size) (x : ByteArray) (hx : ∀ j, j < x.size → bt x j ≠ 32) : fits u (d + p) x = fits s p x := by
  rw [Bool.eq_iff_iff, fits_iff, fits_iff]
  have hsz := h.size
  constructor
  · rintro ⟨h1, h2⟩
    have hle : p + x.size ≤ s.size := by
      by_cases hc : p + x.size ≤ s.size
      · exact hc
      · have h3 := h2 (s.size - p) (by omega)
        rw [show d + p + (s.size - p) = d + s.size by omega] at h3
        have h4 := hx (s.size - p) (by omega)
        rcases h.stop with e | e <;> omega
    refine ⟨hle, fun j hj => ?_⟩
    have := h2 j hj
    rwa [Nat.add_assoc, h.byte _ (by omega)] at this
  · rintro ⟨h1, h2⟩
    refine ⟨by omega, fun j hj => ?_⟩
    rw [Nat.add_assoc, h.byte _ (by omega)]
    exact h2 j hj
theorem sgn_sim {u s : ByteArray} {d : Nat} (h : Sim u d s) {p : Nat} (hp : p ≤ s.size) : sgn u (d + p) = sgn s p :=
  longest_congr _ _ (fun x hx => fits_sim h hp x (fun j hj => (signs_plain x hx j hj).1))
/- characters, numbers -/
def cntF (s : ByteArray) : Nat → Nat → Nat
  | 0, _ => 0
  | f + 1, p => if p < s.size then cntF s f (p + (rdS s p).2.1) + 1 else 0
def cnt (s : ByteArray) : Nat := cntF s s.size 0
theorem cntF_is (s : ByteArray) (k : Nat) (hk : ∀ j, j < k → pos s j < s.size) : ∀ f, s.size ≤ pos s k + f → IsCnt s (k + cntF s f (pos s k)) := by
  intro f
  induction f generalizing k with
  | zero =>
    intro h
    rw [cntF, Nat.add_zero]
    have := (pos_ge s k hk).2
    exact ⟨by omega, hk⟩
  | succ f ih =>
    intro h
    rw [cntF]
    split
    · rename_i hlt
      have hb := rd_bd s (pos s k) hlt
      have := ih (k + 1) (fun j hj => by
        rcases Nat.lt_succ_iff_lt_or_eq.1 hj with hj | rfl
        · exact hk j hj
        · exact hlt) (by rw [pos_succ]; omega)
      rw [pos_succ] at this
      rwa [show k + 1 + cntF s f (pos s k + (rdS s (pos s k)).2.1) = k + (cntF s f (pos s k + (rdS s (pos s k)).2.1) + 1) by omega] at this
    · have := (pos_ge s k hk).2
      rw [Nat.add_zero]
      exact ⟨by omega, hk⟩
theorem cnt_cnt (s : ByteArray) : IsCnt s (cnt s) := by
  have := cntF_is s 0 (fun j hj => by omega) s.size (by omega)
  rwa [Nat.zero_add] at this
def valF (s : ByteArray) (p : Nat) : Nat → Nat
  | 0 => 0
  | n + 1 => 10 * valF s p n + (bt s (p + n) - 48)
theorem valF_congr {s u : ByteArray} {p q : Nat} : ∀ n, (∀ j, j < n → bt s (p + j) = bt u (q + j)) → valF s p n = valF u q n
  | 0, _ => rfl
  | n + 1, h => by rw [valF, valF, valF_congr n (fun j hj => h j (by omega)), h n (by omega)]
def isDig (r : Nat) : Bool := decide (48 ≤ r ∧ r ≤ 57)
def reN (r : Nat) : Bool := reB (r : Nat)
/-- what stands at p: a blank; a fault; a word: its kind, text and number, and where it ends -/
inductive Tk
  | blank
  | bad (e : Nat)
  | word (kind : Nat) (text : ByteArray) (num : Nat) (to : Nat)
def tok (s : ByteArray) (p : Nat) : Tk :=
  if blB ((rdS s p).1 : Nat) = true then .blank
  else if (rdS s p).2.2 = false then .bad 50
  else if stB ((rdS s p).1 : Nat) = true then
    (if rsB (s.extract p (run reN s p)) = true then .word 2 (s.extract p (run reN s p)) 0 (run reN s p)
     else if 16 < cnt (s.extract p (run reN s p)) then .bad 6 else .word 0 (s.extract p (run reN s p)) 0 (run reN s p))
  else if isDig (rdS s p).1 = true then
    (if 9223372036854775807 < valF s p (run isDig s p - p) then .bad 52 else .word 1 emp (valF s p (run isDig s p - p)) (run isDig s p))
  else if plB ((rdS s p).1 : Nat) ≠ emp then .word 2 (plB ((rdS s p).1 : Nat)) 0 (p + (rdS s p).2.1)
  else if sgn s p = emp then .bad 51 else .word 2 (sgn s p) 0 (p + (sgn s p).size)
def Tk.move (d : Nat) : Tk → Tk
  | .blank => .blank
  | .bad e => .bad e
  | .word k t v q => .word k t v (d + q)
end Go.Proofs.YtncgmnijgdfenaaGreatDoor.Gl
/- Words of a text: texts put together, texts cut: plain mathematics. -/
namespace Go.Proofs.YtncgmnijgdfenaaGreatDoor.Gl
set_option linter.unusedVariables false

theorem run_gt {P : Nat → Bool} {s : ByteArray} {p : Nat} (hp : p < s.size) (h1 : (rdS s p).2.2 = true) (h2 : P (rdS s p).1 = true) : p < run P s p := by
  have hr : RunTo P s p (run P s (p + (rdS s p).2.1)) := .cons hp h1 h2 (run_run P s _)
  rw [run_is hr (run_ends P s _)]
  have := (run_run P s (p + (rdS s p).2.1)).le
  have := rd_bd s p hp
  omega
theorem extract_eq {u s : ByteArray} {a b i j : Nat} (hj : j ≤ s.size) (hb : b ≤ u.size) (hl : b - a = j - i) (h : ∀ k, i + k < j → bt u (a + k) = bt s (i + k)) : u.extract a b = s.extract i j := by
  apply ByteArray.ext_getElem
  · rw [ByteArray.size_extract, ByteArray.size_extract]; omega
  · intro k hk1 hk2
    rw [ByteArray.size_extract] at hk1 hk2
    have e := h k (by omega)
    rw [bt_of u (a + k) (by omega), bt_of s (i + k) (by omega)] at e
    rw [ByteArray.getElem_extract, ByteArray.getElem_extract]
    exact UInt8.toNat_inj.1 e
theorem extract_sim {u s : ByteArray} {d : Nat} (h : Sim u d s) {p q : Nat} (hq : q ≤ s.size) : u.extract (d + p) (d + q) = s.extract p q :=
  extract_eq hq (by have := h.size; omega) (by omega) (fun k hk => by rw [Nat.add_assoc]; exact h.byte _ (by omega))
theorem tok_sim {u s : ByteArray} {d : Nat} (h : Sim u d s) {p : Nat} (hp : p < s.size) : tok u (d + p) = (tok s p).move d := by
  have e := rd_sim h p hp
  have r1 := run_sim h (P := reN) (by decide +kernel) (Nat.le_of_lt hp)
  have r2 := run_sim h (P := isDig) (by decide) (Nat.le_of_lt hp)
  have l1 := (run_run reN s p).le_size (Nat.le_of_lt hp)
  have l2 := (run_run isDig s p).le_size (Nat.le_of_lt hp)
  have g2 := (run_run isDig s p).le
  have x1 := extract_sim h (p := p) l1
  have v2 : valF u (d + p) (d + run isDig s p - (d + p)) = valF s p (run isDig s p - p) := by
    rw [show d + run isDig s p - (d + p) = run isDig s p - p by omega]
    exact valF_congr _ (fun j hj => by rw [Nat.add_assoc]; exact h.byte _ (by omega))
  have s1 := sgn_sim h (Nat.le_of_lt hp)
  unfold tok
  rw [e, r1, r2, x1, v2, s1]
  split
  · rfl
  · split
    · rfl
    · split
      · split
        · rfl
        · split <;> rfl
      · split
        · split <;> rfl
        · split
          · rw [Nat.add_assoc]; rfl
          · split
            · rfl
            · rw [Nat.add_assoc]; rfl
/-- a word: its kind, text and number, and its first byte -/
structure Wd where
  kind : Nat
  text : ByteArray
  num : Nat
  byte : Nat
def Wd.move (d : Nat) (w : Wd) : Wd := ⟨w.kind, w.text, w.num, d + w.byte⟩
/-- the words from p on, and the fault -/
inductive Lx (s : ByteArray) : Nat → List Wd → Option (Nat × Nat) → Prop
  | done {p} : s.size ≤ p → Lx s p [] none
  | blank {p ws f} : p < s.size → tok s p = .blank → Lx s (p + 1) ws f → Lx s p ws f
  | bad {p e} : p < s.size → tok s p = .bad e → Lx s p [] (some (e, p))
  | word {p k t v q ws f} : p < s.size → tok s p = .word k t v q → Lx s q ws f → Lx s p (⟨k, t, v, p⟩ :: ws) f
theorem Lx.one {s : ByteArray} {p : Nat} {ws : List Wd} {f : Option (Nat × Nat)} (h : Lx s p ws f) : ∀ {ws' f'}, Lx s p ws' f' → ws = ws' ∧ f = f' := by
  induction h with
  | done h =>
    intro ws' f' k
    cases k with
    | done _ => exact ⟨rfl, rfl⟩
    | blank a _ _ => omega
    | bad a _ => omega
    | word a _ _ => omega
  | blank a b _ ih =>
    intro ws' f' k
    cases k with
    | done _ => omega
    | blank _ _ k => exact ih k
    | bad _ c => rw [b] at c; cases c
    | word _ c _ => rw [b] at c; cases c
  | bad a b =>
    intro ws' f' k
    cases k with
    | done _ => omega
    | blank _ c _ => rw [b] at c; cases c
    | bad _ c => rw [b] at c; cases c; exact ⟨rfl, rfl⟩
    | word _ c _ => rw [b] at c; cases c
  | word a b _ ih =>
    intro ws' f' k
    cases k with
    | done _ => omega
    | blank _ c _ => rw [b] at c; cases c
    | bad _ c => rw [b] at c; cases c
    | word _ c k =>
      rw [b] at c
      cases c
      obtain ⟨rfl, rfl⟩ := ih k
      exact ⟨rfl, rfl⟩
/-- where a word ends: behind its beginning, and within the text -/
theorem tok_to {s : ByteArray} {p k v q : Nat} {t : ByteArray} (hp : p < s.size) (h : tok s p = .word k t v q) : p < q ∧ q ≤ s.size := by
  have hb := rd_bd s p hp
  unfold tok at h
  split at h
  · cases h
  · split at h
    · cases h
    · rename_i hok
      have hok' : (rdS s p).2.2 = true := by
        cases hq : (rdS s p).2.2 with
        | true => rfl
        | false => exact absurd hq hok
      split at h
      · rename_i hst
        have hre : reN (rdS s p).1 = true := reB_of hst
        have hl := (run_run reN s p).le_size (Nat.le_of_lt hp)
        have hg := run_gt hp hok' hre
        split at h
        · cases h; exact ⟨hg, hl⟩
        · split at h
          · cases h
          · cases h; exact ⟨hg, hl⟩
      · split at h
        · rename_i hd
          have hl := (run_run isDig s p).le_size (Nat.le_of_lt hp)
          have hg := run_gt hp hok' hd
          split at h
          · cases h
          · cases h; exact ⟨hg, hl⟩
        · split at h
          · cases h; omega
          · split at h
            · cases h
            · rename_i hne
              cases h
              have hf := longest_fits s p allSigns emp hne
              have h1 := (fits_iff s p _).1 hf.1
              have h2 := hf.2
              exact ⟨by unfold sgn; omega, h1.1⟩
theorem Lx.is (s : ByteArray) : ∀ n p, s.size ≤ p + n → ∃ ws f, Lx s p ws f
  | 0, p, h => ⟨[], none, .done (by omega)⟩
  | n + 1, p, h => by
    by_cases hp : p < s.size
    · cases ht : tok s p with
      | blank =>
        obtain ⟨ws, f, k⟩ := Lx.is s n (p + 1) (by omega)
        exact ⟨ws, f, .blank hp ht k⟩
      | bad e => exact ⟨_, _, .bad hp ht⟩
      | word k t v q =>
        obtain ⟨ws, f, l⟩ := Lx.is s n q (by have := tok_to hp ht; omega)
        exact ⟨_, _, .word hp ht l⟩
    · exact ⟨[], none, .done (by omega)⟩
theorem Lx.ex (s : ByteArray) : ∃ ws f, Lx s 0 ws f := Lx.is s s.size 0 (by omega)
/-- words ahead of what follows -/
theorem Lx.sim {u s : ByteArray} {d : Nat} (h : Sim u d s) {p : Nat} {a : List Wd} {f : Option (Nat × Nat)} (k : Lx s p a f) (hp : p ≤ s.size) : 
    (∀ b g, f = none → Lx u (d + s.size) b g → Lx u (d + p) (a.map (Wd.move d) ++ b) g) ∧ (∀ c e, f = some (c, e) → Lx u (d + p) (a.map (Wd.move d)) (some (c, d + e))) := by
  have hsz := h.size
  induction k with
  | done hd =>
    refine ⟨fun b g _ l => ?_, fun c e he => (by cases he)⟩
    obtain rfl : _ = s.size := Nat.le_antisymm hp hd
    exact l
  | blank a b k ih =>
    have := ih (by omega)
    have ht := tok_sim h a
    rw [b] at ht
    exact ⟨fun c g e l => .blank (by omega) ht (this.1 c g e l), fun c e he => .blank (by omega) ht (this.2 c e he)⟩
  | bad a b =>
    have ht := tok_sim h a
    rw [b] at ht
    refine ⟨fun c g e l => (by cases e), fun c e he => ?_⟩
    cases he
    exact .bad (by omega) ht
  | word a b k ih =>
    have hq := tok_to a b
    have := ih hq.2
    have ht := tok_sim h a
    rw [b] at ht
    exact ⟨fun c g e l => .word (by omega) ht (this.1 c g e l), fun c e he => .word (by omega) ht (this.2 c e he)⟩
end Go.Proofs.YtncgmnijgdfenaaGreatDoor.Gl
/- Words of a text: places, texts cut at a fault, texts joined: plain mathematics. -/
namespace Go.Proofs.YtncgmnijgdfenaaGreatDoor.Gl
set_option linter.unusedVariables false

/-- from p on whole characters lead to e -/
inductive Bd (s : ByteArray) : Nat → Nat → Prop
  | nil (p) : Bd s p p
  | cons {p e} : p < s.size → Bd s (p + (rdS s p).2.1) e → Bd s p e
theorem Bd.trans {s : ByteArray} {p q e : Nat} (h : Bd s p q) (k : Bd s q e) : Bd s p e := by
  induction h with
  | nil => exact k
  | cons a _ ih => exact .cons a (ih k)
theorem Bd.le {s : ByteArray} {p e : Nat} (h : Bd s p e) : p ≤ e := by
  induction h with
  | nil => exact Nat.le_refl _
  | cons _ _ ih => omega
theorem Bd.le_size {s : ByteArray} {p e : Nat} (h : Bd s p e) (hp : p ≤ s.size) : e ≤ s.size := by
  induction h with
  | nil => exact hp
  | cons a _ ih => exact ih (rd_bd s _ a).2.1
theorem Bd.step {s : ByteArray} {p e : Nat} (h : Bd s p e) (hp : p < e) : p + (rdS s p).2.1 ≤ e := by
  cases h with
  | nil => omega
  | cons _ k => exact k.le
theorem RunTo.bd {P : Nat → Bool} {s : ByteArray} {p q : Nat} (h : RunTo P s p q) : Bd s p q := by
  induction h with
  | nil => exact .nil _
  | cons a _ _ _ ih => exact .cons a ih
theorem bd_pos {s : ByteArray} : ∀ (k : Nat), (∀ j, j < k → pos s j < s.size) → Bd s 0 (pos s k)
  | 0, _ => .nil 0
  | k + 1, h => (bd_pos k (fun j hj => h j (by omega))).trans (.cons (h k (by omega)) (by rw [← pos_succ]; exact .nil _))
theorem pos_bd {s : ByteArray} {p e : Nat} (h : Bd s p e) : ∀ k, pos s k = p → (∀ j, j < k → pos s j < s.size) → ∃ m, pos s m = e ∧ ∀ j, j < m → pos s j < s.size := by
  induction h with
  | nil => intro k h1 h2; exact ⟨k, h1, h2⟩
  | cons a _ ih =>
    intro k h1 h2
    refine ih (k + 1) (by rw [pos_succ, h1]) (fun j hj => ?_)
    rcases Nat.lt_succ_iff_lt_or_eq.1 hj with hj | rfl
    · exact h2 j hj
    · rw [h1]; exact a
/-- the place of a byte at which a character begins -/
theorem bd_place {s : ByteArray} {e : Nat} (h : Bd s 0 e) : ∃ m, pos s m = e ∧ (∀ j, j < m → pos s j < s.size) ∧ IsCnt (s.extract 0 e) m := by
  obtain ⟨m, h1, h2⟩ := pos_bd h 0 rfl (fun j hj => by omega)
  exact ⟨m, h1, h2, by rw [← h1]; exact cnt_cut s m h2⟩
theorem bd_ascii {s : ByteArray} : ∀ (n p : Nat), p + n ≤ s.size → (∀ j, j < n → bt s (p + j) < 128) → Bd s p (p + n)
  | 0, p, _, _ => .nil p
  | n + 1, p, h, hb => by
    have h0 := hb 0 (by omega)
    rw [Nat.add_zero] at h0
    refine .cons (by omega) ?_
    rw [rd_one s p h0]
    have := bd_ascii (s := s) n (p + 1) (by omega) (fun j hj => by have := hb (j + 1) (by omega); rwa [show p + 1 + j = p + (j + 1) by omega])
    rw [show p + 1 + n = p + (n + 1) by omega] at this
    exact this
theorem blank_one {s : ByteArray} {p : Nat} (h : blB ((rdS s p).1 : Nat) = true) : (rdS s p).2.1 = 1 ∧ blB (bt s p : Nat) = true := by
  have hr : (rdS s p).1 < 128 := by
    have := of_decide_eq_true h
    omega
  obtain ⟨h1, h2, _⟩ := rd_ascii hr
  exact ⟨h2, by rw [h1]; exact h⟩
theorem sgn_mem {s : ByteArray} {p : Nat} (h : ¬ sgn s p = emp) : fits s p (sgn s p) = true ∧ sgn s p ∈ allSigns ∧ 0 < (sgn s p).size := by
  rcases longest_or s p allSigns emp with e | ⟨e1, e2, e3⟩
  · exact absurd e h
  · exact ⟨e1, e2, Nat.lt_of_le_of_lt (Nat.zero_le _) e3⟩
/-- what the token says -/
theorem tok_cases (s : ByteArray) (p : Nat) :
    (blB ((rdS s p).1 : Nat) = true ∧ tok s p = .blank) ∨ (blB ((rdS s p).1 : Nat) = false ∧
      (((rdS s p).2.2 = false ∧ tok s p = .bad 50) ∨ ((rdS s p).2.2 = true ∧
        ((stB ((rdS s p).1 : Nat) = true ∧ ((rsB (s.extract p (run reN s p)) = true ∧ tok s p = .word 2 (s.extract p (run reN s p)) 0 (run reN s p)) ∨ (rsB (s.extract p (run reN s p)) = false ∧ 16 < cnt (s.extract p (run reN s p)) ∧ tok s p = .bad 6) ∨
          (rsB (s.extract p (run reN s p)) = false ∧ ¬ 16 < cnt (s.extract p (run reN s p)) ∧ tok s p = .word 0 (s.extract p (run reN s p)) 0 (run reN s p)))) ∨
         (stB ((rdS s p).1 : Nat) = false ∧ isDig (rdS s p).1 = true ∧ ((9223372036854775807 < valF s p (run isDig s p - p) ∧ tok s p = .bad 52) ∨ (¬ 9223372036854775807 < valF s p (run isDig s p - p) ∧ tok s p = .word 1 emp (valF s p (run isDig s p - p)) (run isDig s p)))) ∨
         (stB ((rdS s p).1 : Nat) = false ∧ isDig (rdS s p).1 = false ∧ plB ((rdS s p).1 : Nat) ≠ emp ∧ tok s p = .word 2 (plB ((rdS s p).1 : Nat)) 0 (p + (rdS s p).2.1)) ∨
         (stB ((rdS s p).1 : Nat) = false ∧ isDig (rdS s p).1 = false ∧ plB ((rdS s p).1 : Nat) = emp ∧ ((sgn s p = emp ∧ tok s p = .bad 51) ∨ (¬ sgn s p = emp ∧ tok s p = .word 2 (sgn s p) 0 (p + (sgn s p).size)))))))) := by
  have e : tok s p = tok s p := rfl
  conv at e => rhs; unfold tok
  cases h1 : blB ((rdS s p).1 : Nat) with
  | true => rw [h1, if_pos rfl] at e; exact .inl ⟨rfl, e⟩
  | false =>
    rw [h1, if_neg (by decide)] at e
    refine .inr ⟨rfl, ?_⟩
    cases h2 : (rdS s p).2.2 with
    | false => rw [h2, if_pos rfl] at e; exact .inl ⟨rfl, e⟩
    | true =>
      rw [h2, if_neg (by decide)] at e
      refine .inr ⟨rfl, ?_⟩
      cases h3 : stB ((rdS s p).1 : Nat) with
      | true =>
        rw [h3, if_pos rfl] at e
        refine .inl ⟨rfl, ?_⟩
        cases h4 : rsB (s.extract p (run reN s p)) with
        | true => rw [h4, if_pos rfl] at e; exact .inl ⟨rfl, e⟩
        | false =>
          rw [h4, if_neg (by decide)] at e
          by_cases h5 : 16 < cnt (s.extract p (run reN s p))
          · rw [if_pos h5] at e; exact .inr (.inl ⟨rfl, h5, e⟩)
          · rw [if_neg h5] at e; exact .inr (.inr ⟨rfl, h5, e⟩)
      | false =>
        rw [h3, if_neg (by decide)] at e
        cases h6 : isDig (rdS s p).1 with
        | true =>
          rw [h6, if_pos rfl] at e
          refine .inr (.inl ⟨rfl, rfl, ?_⟩)
          by_cases h7 : 9223372036854775807 < valF s p (run isDig s p - p)
          · rw [if_pos h7] at e; exact .inl ⟨h7, e⟩
          · rw [if_neg h7] at e; exact .inr ⟨h7, e⟩
        | false =>
          rw [h6, if_neg (by decide)] at e
          by_cases h8 : plB ((rdS s p).1 : Nat) = emp
          · rw [if_neg (fun h => h h8)] at e
            refine .inr (.inr (.inr ⟨rfl, rfl, h8, ?_⟩))
            by_cases h9 : sgn s p = emp
            · rw [if_pos h9] at e; exact .inl ⟨h9, e⟩
            · rw [if_neg h9] at e; exact .inr ⟨h9, e⟩
          · rw [if_pos h8] at e
            exact .inr (.inr (.inl ⟨rfl, rfl, h8, e⟩))
/-- a word is made of whole characters, the first of which is no blank -/
theorem tok_bd {s : ByteArray} {p k v q : Nat} {t : ByteArray} (hp : p < s.size) (h : tok s p = .word k t v q) : Bd s p q ∧ blB ((rdS s p).1 : Nat) = false := by
  rcases tok_cases s p with ⟨_, e⟩ | ⟨hbl, ⟨_, e⟩ | ⟨_, ⟨_, ⟨_, e⟩ | ⟨_, _, e⟩ | ⟨_, _, e⟩⟩ | ⟨_, _, ⟨_, e⟩ | ⟨_, e⟩⟩ | ⟨_, _, _, e⟩ | ⟨_, _, _, ⟨_, e⟩ | ⟨hne, e⟩⟩⟩⟩
  all_goals rw [h] at e
  all_goals cases e
  all_goals refine ⟨?_, hbl⟩
  · exact (run_run reN s p).bd
  · exact (run_run reN s p).bd
  · exact (run_run isDig s p).bd
  · exact .cons hp (.nil _)
  · obtain ⟨h1, h2, _⟩ := sgn_mem hne
    have h3 := (fits_iff s p _).1 h1
    exact bd_ascii _ p h3.1 (fun j hj => by rw [h3.2 j hj]; exact (signs_plain _ h2 j hj).2)
theorem blank_bd {s : ByteArray} {p : Nat} (hp : p < s.size) (h : tok s p = .blank) : Bd s p (p + 1) ∧ blB ((rdS s p).1 : Nat) = true := by
  have hbl : blB ((rdS s p).1 : Nat) = true := by
    rcases tok_cases s p with ⟨hbl, _⟩ | ⟨hbl, ⟨_, e⟩ | ⟨_, ⟨_, ⟨_, e⟩ | ⟨_, _, e⟩ | ⟨_, _, e⟩⟩ | ⟨_, _, ⟨_, e⟩ | ⟨_, e⟩⟩ | ⟨_, _, _, e⟩ | ⟨_, _, _, ⟨_, e⟩ | ⟨hne, e⟩⟩⟩⟩
    · exact hbl
    all_goals rw [h] at e
    all_goals cases e
  refine ⟨.cons hp ?_, hbl⟩
  rw [(blank_one hbl).1]
  exact .nil _
/-- a fault's place: a character begins there -/
theorem Lx.bd {s : ByteArray} {p : Nat} {ws : List Wd} {f : Option (Nat × Nat)} (h : Lx s p ws f) : (∀ w ∈ ws, Bd s p w.byte ∧ w.byte < s.size ∧ blB ((rdS s w.byte).1 : Nat) = false) ∧ ∀ c e, f = some (c, e) → Bd s p e ∧ e < s.size := by
  induction h with
  | done => exact ⟨fun w hw => (by cases hw), fun c e he => (by cases he)⟩
  | blank a b _ ih =>
    obtain ⟨h1, _⟩ := blank_bd a b
    exact ⟨fun w hw => ⟨h1.trans (ih.1 w hw).1, (ih.1 w hw).2⟩, fun c e he => ⟨h1.trans (ih.2 c e he).1, (ih.2 c e he).2⟩⟩
  | bad a b =>
    refine ⟨fun w hw => (by cases hw), fun c e he => ?_⟩
    cases he
    exact ⟨.nil _, a⟩
  | word a b _ ih =>
    obtain ⟨h1, h2⟩ := tok_bd a b
    refine ⟨fun w hw => ?_, fun c e he => ⟨h1.trans (ih.2 c e he).1, (ih.2 c e he).2⟩⟩
    rcases List.mem_cons.1 hw with rfl | hw
    · exact ⟨.nil _, a, h2⟩
    · exact ⟨h1.trans (ih.1 w hw).1, (ih.1 w hw).2⟩
/-- the words stand in order -/
theorem Lx.rise {s : ByteArray} {p : Nat} {ws : List Wd} {f : Option (Nat × Nat)} (h : Lx s p ws f) : (∀ w ∈ ws, p ≤ w.byte) ∧ ws.Pairwise (fun a b => a.byte < b.byte) := by
  induction h with
  | done => exact ⟨fun w hw => (by cases hw), .nil⟩
  | blank a b _ ih => exact ⟨fun w hw => by have := ih.1 w hw; omega, ih.2⟩
  | bad => exact ⟨fun w hw => (by cases hw), .nil⟩
  | word a b _ ih =>
    have hq := tok_to a b
    refine ⟨fun w hw => ?_, List.pairwise_cons.2 ⟨fun w hw => ?_, ih.2⟩⟩
    · rcases List.mem_cons.1 hw with rfl | hw
      · exact Nat.le_refl _
      · have := ih.1 w hw; omega
    · have := ih.1 w hw
      dsimp only
      omega
/-- ahead of the first word stand blanks -/
theorem Lx.ahead {s : ByteArray} {p : Nat} {ws : List Wd} {f : Option (Nat × Nat)} (h : Lx s p ws f) (hf : f = none) : ∀ i, p ≤ i → i < s.size → (∀ w ∈ ws, i < w.byte) → blB (bt s i : Nat) = true := by
  induction h with
  | done hd => intro i h1 h2 _; omega
  | blank a b _ ih =>
    intro i h1 h2 h3
    rcases Nat.lt_or_eq_of_le h1 with hlt | rfl
    · exact ih hf i hlt h2 h3
    · exact (blank_one (blank_bd a b).2).2
  | bad => cases hf
  | word a b _ ih =>
    intro i h1 h2 h3
    have h4 : i < _ := h3 _ (List.mem_cons_self ..)
    dsimp only at h4
    omega
end Go.Proofs.YtncgmnijgdfenaaGreatDoor.Gl
