/- Words of a text: the plain function; texts put together: plain mathematics. -/
import Derived.Test.YthimmohbedaimaaDoorLxA
namespace Go.Proofs.YthimmohbedaimaaDoor.Gl
set_option linter.unusedVariables false

/-- where the run of characters with P ends -/
def runF (P : Nat → Bool) (s : ByteArray) : Nat → Nat → Nat
  | 0, p => p
  | f + 1, p => if p < s.size ∧ (rdS s p).2.2 = true ∧ P (rdS s p).1 = true then runF P s f (p + (rdS s p).2.1) else p
/-- a run of characters with P -/
inductive RunTo (P : Nat → Bool) (s : ByteArray) : Nat → Nat → Prop
  | nil (p) : RunTo P s p p
  | cons {p q} : p < s.size → (rdS s p).2.2 = true → P (rdS s p).1 = true → RunTo P s (p + (rdS s p).2.1) q → RunTo P s p q
/-- nothing with P stands at p -/
def Ends (P : Nat → Bool) (s : ByteArray) (p : Nat) : Prop := ¬ (p < s.size ∧ (rdS s p).2.2 = true ∧ P (rdS s p).1 = true)
theorem RunTo.le {P : Nat → Bool} {s : ByteArray} {p q : Nat} (h : RunTo P s p q) : p ≤ q := by
  induction h with
  | nil => exact Nat.le_refl _
  | cons hp _ _ _ ih => omega
theorem RunTo.le_size {P : Nat → Bool} {s : ByteArray} {p q : Nat} (h : RunTo P s p q) (hp : p ≤ s.size) : q ≤ s.size := by
  induction h with
  | nil => exact hp
  | cons a _ _ _ ih => exact ih (rd_bd s _ a).2.1
theorem runF_run (P : Nat → Bool) (s : ByteArray) : ∀ f p, RunTo P s p (runF P s f p)
  | 0, p => .nil p
  | f + 1, p => by
    rw [runF]
    split
    · rename_i h
      exact .cons h.1 h.2.1 h.2.2 (runF_run P s f _)
    · exact .nil p
theorem runF_ends (P : Nat → Bool) (s : ByteArray) : ∀ f p, s.size ≤ p + f → Ends P s (runF P s f p)
  | 0, p, h => fun hc => by rw [runF] at hc; omega
  | f + 1, p, h => by
    rw [runF]
    split
    · rename_i hc
      have := rd_bd s p hc.1
      exact runF_ends P s f _ (by omega)
    · rename_i hc
      exact hc
theorem run_one {P : Nat → Bool} {s : ByteArray} {p q r : Nat} (h : RunTo P s p q) (hq : Ends P s q) (k : RunTo P s p r) (hr : Ends P s r) : q = r := by
  induction h generalizing r with
  | nil =>
    cases k with
    | nil => rfl
    | cons a b c _ => exact absurd ⟨a, b, c⟩ hq
  | cons a b c h ih =>
    cases k with
    | nil => exact absurd ⟨a, b, c⟩ hr
    | cons _ _ _ k => exact ih hq k hr
def run (P : Nat → Bool) (s : ByteArray) (p : Nat) : Nat := runF P s s.size p
theorem run_is {P : Nat → Bool} {s : ByteArray} {p q : Nat} (h : RunTo P s p q) (hq : Ends P s q) : run P s p = q :=
  run_one (runF_run P s s.size p) (runF_ends P s s.size p (by omega)) h hq
theorem run_run (P : Nat → Bool) (s : ByteArray) (p : Nat) : RunTo P s p (run P s p) := runF_run P s s.size p
theorem run_ends (P : Nat → Bool) (s : ByteArray) (p : Nat) : Ends P s (run P s p) := runF_ends P s s.size p (by omega)
theorem RunTo.sim {P : Nat → Bool} {u s : ByteArray} {d : Nat} (h : Sim u d s) {p q : Nat} (k : RunTo P s p q) : RunTo P u (d + p) (d + q) := by
  induction k with
  | nil => exact .nil _
  | cons a b c _ ih =>
    have e := rd_sim h _ a
    refine .cons (by have := h.size; omega) (by rw [e]; exact b) (by rw [e]; exact c) ?_
    rw [e, Nat.add_assoc]
    exact ih
theorem rd_blank {s : ByteArray} {p : Nat} (h : bt s p = 32) : rdS s p = (32, 1, true) := by rw [rd_one s p (by omega), h]
theorem ends_sim {P : Nat → Bool} {u s : ByteArray} {d : Nat} (h : Sim u d s) (hP : P 32 = false) {q : Nat} (hq : q ≤ s.size) (k : Ends P s q) : Ends P u (d + q) := by
  rintro ⟨a, b, c⟩
  by_cases hlt : q < s.size
  · rw [rd_sim h q hlt] at b c
    exact k ⟨hlt, b, c⟩
  · obtain rfl : q = s.size := by omega
    rcases h.stop with e | e
    · omega
    · rw [rd_blank e] at c
      rw [hP] at c; cases c
theorem run_sim {P : Nat → Bool} {u s : ByteArray} {d : Nat} (h : Sim u d s) (hP : P 32 = false) {p : Nat} (hp : p ≤ s.size) : run P u (d + p) = d + run P s p :=
  run_is ((run_run P s p).sim h) (ends_sim h hP ((run_run P s p).le_size hp) (run_ends P s p))
/- signs -/
abbrev allSigns : List ByteArray := [⟨#[40]⟩, ⟨#[41]⟩, ⟨#[91]⟩, ⟨#[93]⟩, ⟨#[44]⟩, ⟨#[46]⟩, ⟨#[43]⟩, ⟨#[45]⟩, ⟨#[42]⟩, ⟨#[61]⟩, ⟨#[33, 61]⟩, ⟨#[60, 61]⟩, ⟨#[62, 61]⟩, ⟨#[60]⟩, ⟨#[62]⟩, ⟨#[45, 62]⟩, ⟨#[60, 45, 62]⟩, ⟨#[126]⟩]
/-- does x stand at p? -/
def fits (s : ByteArray) (p : Nat) (x : ByteArray) : Bool := decide (p + x.size ≤ s.size) && (List.range x.size).all (fun j => bt s (p + j) == bt x j)
theorem fits_iff (s : ByteArray) (p : Nat) (x : ByteArray) : fits s p x = true ↔ p + x.size ≤ s.size ∧ ∀ j, j < x.size → bt s (p + j) = bt x j := by
  unfold fits
  rw [Bool.and_eq_true, decide_eq_true_eq, List.all_eq_true]
  simp only [List.mem_range, beq_iff_eq]
/-- the longest of them that stands at p -/
def longest (s : ByteArray) (p : Nat) : List ByteArray → ByteArray → ByteArray
  | [], b => b
  | x :: l, b => longest s p l (if (fits s p x && decide (b.size < x.size)) = true then x else b)
theorem longest_congr {s u : ByteArray} {p q : Nat} (l : List ByteArray) (b : ByteArray) (h : ∀ x ∈ l, fits s p x = fits u q x) : longest s p l b = longest u q l b := by
  induction l generalizing b with
  | nil => rfl
  | cons x l ih =>
    rw [longest, longest, h x (List.mem_cons_self ..)]
    exact ih _ (fun y hy => h y (List.mem_cons_of_mem _ hy))
theorem longest_or (s : ByteArray) (p : Nat) (l : List ByteArray) (b : ByteArray) : longest s p l b = b ∨ (fits s p (longest s p l b) = true ∧ longest s p l b ∈ l ∧ b.size < (longest s p l b).size) := by
  induction l generalizing b with
  | nil => exact .inl rfl
  | cons x l ih =>
    rw [longest]
    split
    · rename_i h
      rw [Bool.and_eq_true, decide_eq_true_eq] at h
      rcases ih x with e | ⟨e1, e2, e3⟩
      · rw [e]; exact .inr ⟨h.1, List.mem_cons_self .., h.2⟩
      · exact .inr ⟨e1, List.mem_cons_of_mem _ e2, by omega⟩
    · rcases ih b with e | ⟨e1, e2, e3⟩
      · exact .inl e
      · exact .inr ⟨e1, List.mem_cons_of_mem _ e2, e3⟩
theorem longest_fits (s : ByteArray) (p : Nat) (l : List ByteArray) (b : ByteArray) (h : ¬ longest s p l b = b) : fits s p (longest s p l b) = true ∧ 0 < (longest s p l b).size := by
  rcases longest_or s p l b with e | ⟨e1, _, e3⟩
  · exact absurd e h
  · exact ⟨e1, by omega⟩
def sgn (s : ByteArray) (p : Nat) : ByteArray := longest s p allSigns emp
/-- no sign has a blank -/
theorem signs_plain : ∀ x ∈ allSigns, ∀ j, j < x.size → bt x j ≠ 32 ∧ bt x j < 128 := by decide +kernel
theorem fits_sim {u s : ByteArray} {d : Nat} (h : Sim u d s) {p : Nat} (hp : p ≤ s.size) (x : ByteArray) (hx : ∀ j, j < x.size → bt x j ≠ 32) : fits u (d + p) x = fits s p x := by
  rw [Bool.eq_iff_iff, fits_iff, fits_iff]
  have hsz := h.size
  constructor
  · rintro ⟨h1, h2⟩
    have hle : p + x.size ≤ s.size := by
      by_cases hc : p + x.size ≤ s.size
      · exact hc
      · have h3 := h2 (s.size - p) (by omega)
        rw [show d + p + (s.size - p) = d + s.size by omega] at h3
        have h4 := hx (s.size - p) (by omega)
        rcases h.stop with e | e <;> omega
    refine ⟨hle, fun j hj => ?_⟩
    have := h2 j hj
    rwa [Nat.add_assoc, h.byte _ (by omega)] at this
  · rintro ⟨h1, h2⟩
    refine ⟨by omega, fun j hj => ?_⟩
    rw [Nat.add_assoc, h.byte _ (by omega)]
    exact h2 j hj
theorem sgn_sim {u s : ByteArray} {d : Nat} (h : Sim u d s) {p : Nat} (hp : p ≤ s.size) : sgn u (d + p) = sgn s p :=
  longest_congr _ _ (fun x hx => fits_sim h hp x (fun j hj => (signs_plain x hx j hj).1))
/- characters, numbers -/
def cntF (s : ByteArray) : Nat → Nat → Nat
  | 0, _ => 0
  | f + 1, p => if p < s.size then cntF s f (p + (rdS s p).2.1) + 1 else 0
def cnt (s : ByteArray) : Nat := cntF s s.size 0
theorem cntF_is (s : ByteArray) (k : Nat) (hk : ∀ j, j < k → pos s j < s.size) : ∀ f, s.size ≤ pos s k + f → IsCnt s (k + cntF s f (pos s k)) := by
  intro f
  induction f generalizing k with
  | zero =>
    intro h
    rw [cntF, Nat.add_zero]
    have := (pos_ge s k hk).2
    exact ⟨by omega, hk⟩
  | succ f ih =>
    intro h
    rw [cntF]
    split
    · rename_i hlt
      have hb := rd_bd s (pos s k) hlt
      have := ih (k + 1) (fun j hj => by
        rcases Nat.lt_succ_iff_lt_or_eq.1 hj with hj | rfl
        · exact hk j hj
        · exact hlt) (by rw [pos_succ]; omega)
      rw [pos_succ] at this
      rwa [show k + 1 + cntF s f (pos s k + (rdS s (pos s k)).2.1) = k + (cntF s f (pos s k + (rdS s (pos s k)).2.1) + 1) by omega] at this
    · have := (pos_ge s k hk).2
      rw [Nat.add_zero]
      exact ⟨by omega, hk⟩
theorem cnt_cnt (s : ByteArray) : IsCnt s (cnt s) := by
  have := cntF_is s 0 (fun j hj => by omega) s.size (by omega)
  rwa [Nat.zero_add] at this
def valF (s : ByteArray) (p : Nat) : Nat → Nat
  | 0 => 0
  | n + 1 => 10 * valF s p n + (bt s (p + n) - 48)
theorem valF_congr {s u : ByteArray} {p q : Nat} : ∀ n, (∀ j, j < n → bt s (p + j) = bt u (q + j)) → valF s p n = valF u q n
  | 0, _ => rfl
  | n + 1, h => by rw [valF, valF, valF_congr n (fun j hj => h j (by omega)), h n (by omega)]
def isDig (r : Nat) : Bool := decide (48 ≤ r ∧ r ≤ 57)
def reN (r : Nat) : Bool := reB (r : Nat)
/-- what stands at p: a blank; a fault; a word: its kind, text and number, and where it ends -/
inductive Tk
  | blank
  | bad (e : Nat)
  | word (kind : Nat) (text : ByteArray) (num : Nat) (to : Nat)
def tok (s : ByteArray) (p : Nat) : Tk :=
  if blB ((rdS s p).1 : Nat) = true then .blank
  else if (rdS s p).2.2 = false then .bad 50
  else if stB ((rdS s p).1 : Nat) = true then
    (if rsB (s.extract p (run reN s p)) = true then .word 2 (s.extract p (run reN s p)) 0 (run reN s p)
     else if 16 < cnt (s.extract p (run reN s p)) then .bad 6 else .word 0 (s.extract p (run reN s p)) 0 (run reN s p))
  else if isDig (rdS s p).1 = true then
    (if 9223372036854775807 < valF s p (run isDig s p - p) then .bad 52 else .word 1 emp (valF s p (run isDig s p - p)) (run isDig s p))
  else if plB ((rdS s p).1 : Nat) ≠ emp then .word 2 (plB ((rdS s p).1 : Nat)) 0 (p + (rdS s p).2.1)
  else if sgn s p = emp then .bad 51 else .word 2 (sgn s p) 0 (p + (sgn s p).size)
def Tk.move (d : Nat) : Tk → Tk
  | .blank => .blank
  | .bad e => .bad e
  | .word k t v q => .word k t v (d + q)
end Go.Proofs.YthimmohbedaimaaDoor.Gl
