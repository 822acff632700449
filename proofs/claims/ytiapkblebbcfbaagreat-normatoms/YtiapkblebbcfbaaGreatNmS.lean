/- Atoms: what a right one is made of, what it comes to. -/
import Derived.Test.YtiapkblebbcfbaaGreatNmR
namespace Go.Proofs.YtiapkblebbcfbaaGreat.Gl
open Go.RowKit
set_option linter.unusedVariables false
set_option linter.unusedSimpArgs false

def finS (o m : Int) (D : Sm) : Ar := if in64 (-D.k) = true ∧ in64 (bdOf o D.k) = true then (if tight (nrOf o m D) then .ok (nrOf o m D) else .er 91) else .er 91
theorem atmS_eq (o m : Int) (s t : Tm) : atmS o m [s, t] = match dfS o s t with | .er e => .er e | .ok D => finS o m D := by
  unfold atmS dfS
  show (match lin s with | .er e => Ar.er e | .ok a => match lin t with | .er e => Ar.er e | .ok b => nrmS o m a b) = _
  cases lin s with
  | er e => rfl
  | ok a =>
    cases lin t with
    | er e => rfl
    | ok b =>
      show nrmS o m a b = match mkS (difS o a b) with | .er e => Ar.er e | .ok D => finS o m D
      unfold nrmS
      by_cases h : (difS o a b).fits = true
      · rw [mkS_yes h]
        show _ = finS o m (difS o a b)
        unfold finS
        by_cases h2 : in64 (-(difS o a b).k) = true ∧ in64 (bdOf o (difS o a b).k) = true
        · rw [if_pos ⟨h, h2⟩, if_pos h2]
        · rw [if_neg (fun k => h2 k.2), if_neg h2]
      · rw [mkS_no h, if_neg (fun k => h k.1)]
theorem fm_low {nm : ByteArray → Bool} {o m : Int} {x : ByteArray} {t : List Tm} {a : List Fm} (h : wF nm o x m t.length a.length = true) (ho : o < 9) : t = [] := by
  unfold wF at h
  rw [← List.length_eq_zero_iff]
  split at h
  · simp only [Bool.and_eq_true, decide_eq_true_eq] at h; exact h.1.2
  · split at h
    · omega
    · split at h
      · simp only [Bool.and_eq_true, decide_eq_true_eq] at h
        have := h.1.2
        rw [if_neg (by omega)] at this
        exact this
      · cases h
theorem fm_atom {nm : ByteArray → Bool} {o m : Int} {x : ByteArray} {t : List Tm} {a : List Fm} (h : wF nm o x m t.length a.length = true) (ho : ¬ o < 9) : (∃ s u, t = [s, u]) ∧ a = [] ∧ (o = 15 → 1 ≤ m) ∧ (o ≠ 15 → m = 0) ∧ o ≤ 15 := by
  have h2 : t.length = 2 → ∃ s u, t = [s, u] := fun e => by
    cases t with
    | nil => simp at e
    | cons s r => cases r with
      | nil => simp at e
      | cons u r => cases r with
        | nil => exact ⟨s, u, rfl⟩
        | cons _ _ => simp at e
  unfold wF at h
  split at h
  · omega
  · split at h
    · simp only [Bool.and_eq_true, decide_eq_true_eq] at h
      exact ⟨h2 h.1.2, List.length_eq_zero_iff.1 h.2, fun _ => h.1.1.2, fun e => absurd ‹o = 15› e, by omega⟩
    · split at h
      · simp only [Bool.and_eq_true, decide_eq_true_eq] at h
        have e1 := h.1.2
        have e2 := h.2
        rw [if_pos (by omega)] at e1
        rw [if_neg (by omega), if_neg (by omega)] at e2
        exact ⟨h2 e1, List.length_eq_zero_iff.1 e2, fun e => absurd e ‹¬ o = 15›, fun _ => h.1.1.2, by omega⟩
      · cases h
/-- a right formula that is an atom -/
theorem fm_right {o m : Int} {x : ByteArray} {t : List Tm} {a : List Fm} (h : chk nmB (.mk o x m t a) = 0) : wF nmB o x m t.length a.length = true ∧ (∀ s ∈ t, s.all (wellT nmB) = true) ∧ Tm.sizeL t + Fm.sizeL a + 1 ≤ 500 := by
  have hr := (chk_iff nmB _).1 h
  have h3 := hr.2.2
  rw [Fm.all, Bool.and_eq_true, Bool.and_eq_true] at h3
  refine ⟨h3.1.1, ?_, by have := hr.1; rw [Fm.size] at this; exact this⟩
  have key : ∀ l : List Tm, Tm.allL (wellT nmB) l = true → ∀ s ∈ l, s.all (wellT nmB) = true := by
    intro l
    induction l with
    | nil => intro _ s hs; cases hs
    | cons u r ih =>
      intro h s hs
      rw [Tm.allL, Bool.and_eq_true] at h
      rcases List.mem_cons.1 hs with rfl | hs
      · exact h.1
      · exact ih h.2 s hs
  exact key t h3.1.2
theorem dfS_er {o : Int} {s t : Tm} (hs : s.all (wellT nmB) = true) (ht : t.all (wellT nmB) = true) {e : Nat} (h : dfS o s t = .er e) : e = 90 ∨ e = 91 := by
  unfold dfS at h
  cases hl : lin s with
  | er f => rw [hl] at h; cases h; exact lin_er nmB s hs _ hl
  | ok a =>
    cases hm : lin t with
    | er f => rw [hl, hm] at h; cases h; exact lin_er nmB t ht _ hm
    | ok b =>
      rw [hl, hm] at h
      dsimp only at h
      unfold mkS at h
      split at h
      · cases h
      · cases h; exact .inr rfl
theorem dfS_good {o : Int} {s t : Tm} (hs : s.all (wellT nmB) = true) (ht : t.all (wellT nmB) = true) (hz : s.size + t.size ≤ 499) {D : Sm} (h : dfS o s t = .ok D) : D.good nmB 1000 := by
  unfold dfS at h
  cases hl : lin s with
  | er f => rw [hl] at h; cases h
  | ok a =>
    cases hm : lin t with
    | er f => rw [hl, hm] at h; cases h
    | ok b =>
      rw [hl, hm] at h
      dsimp only at h
      obtain ⟨rfl, hf⟩ := mkS_ok h
      have ga := lin_good nmB s hs a hl
      have gb := lin_good nmB t ht b hm
      unfold difS at hf ⊢
      split at hf
      · rw [if_pos ‹_›]; exact (cmb_good gb ga hf).mono (by omega)
      · rw [if_neg ‹_›]; exact (cmb_good ga gb hf).mono (by omega)
/-- what Atom answers -/
def ArV (B : Nat) (w' : World) (r : Ar) (v : Value) : Prop :=
  match r with
  | .er e => v = .tuple #[.agg zN, .int .i64 e]
  | .ok N => ∃ no co n c o d, v = .tuple #[nrV N.kd N.bd N.md no co n c o d, .int .i64 0] ∧ NrM w' N no co n c o d ∧ NewA B no ∧ NewA B co
theorem atm_no {f : Fm} (h : ¬ chk nmB f = 0) : atm f = .er (chk nmB f) := if_neg h
theorem atm_low {f : Fm} (h : chk nmB f = 0) (k : f.op < 9) : atm f = .er 3 := by unfold atm; rw [if_pos h, if_pos k]
theorem atm_at {f : Fm} (h : chk nmB f = 0) (k : ¬ f.op < 9) : atm f = atmS f.op f.mod f.terms := by unfold atm; rw [if_pos h, if_neg k]
theorem finS_no {o m : Int} {D : Sm} (h : ¬ (in64 (-D.k) = true ∧ in64 (bdOf o D.k) = true)) : finS o m D = .er 91 := if_neg h
theorem finS_wide {o m : Int} {D : Sm} (h : in64 (-D.k) = true ∧ in64 (bdOf o D.k) = true) (k : ¬ tight (nrOf o m D)) : finS o m D = .er 91 := by unfold finS; rw [if_pos h, if_neg k]
theorem finS_ok {o m : Int} {D : Sm} (h : in64 (-D.k) = true ∧ in64 (bdOf o D.k) = true) (k : tight (nrOf o m D)) : finS o m D = .ok (nrOf o m D) := by unfold finS; rw [if_pos h, if_pos k]
end Go.Proofs.YtiapkblebbcfbaaGreat.Gl
